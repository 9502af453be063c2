import PyProof.Rows.All
import Wide.All
import OpenK.AllK
import Wide.FinOn
import Lean
import PyProof.EqAt
import PyProof.EqKinds
import PyProof.TupleCall
import KE.KSortKey
import KE.KLam
import KE.KRevIter
import PyProof.FactsAll.range_2
import PyProof.P3Eq
import PySem.Challenge.RW_roundsalone_k30_small_parts
set_option Elab.async false
set_option linter.all false
set_option maxRecDepth 100000
namespace L2
open PySem PySem.Spec PyProof.Rows
abbrev Key := Sum Int Str
def keyIs : Key → Value → Bool
  | .inl k, v => Value.isInt k v
  | .inr x, v => Value.isStrOf x v
def keyH (w : World) : Key → Int
  | .inl k => hashInt k
  | .inr x => hashStr w x
theorem keyIs_shape : ∀ {k : Key} {v : Value}, keyIs k v = true → (∃ i t, k = Sum.inl i ∧ v = Value.int i t) ∨ (∃ x t, k = Sum.inr x ∧ v = Value.str x t)
  | .inl i, v, h => by
    obtain ⟨t, e⟩ := Value.isInt_shape (k := i) (v := v) h
    exact .inl ⟨i, t, rfl, e⟩
  | .inr x, v, h => by
    obtain ⟨t, e⟩ := Value.isStrOf_shape (x := x) (v := v) h
    exact .inr ⟨x, t, rfl, e⟩
theorem key_ll (a b : Int) : decide ((Sum.inl a : Key) = Sum.inl b) = (a == b) := by
  by_cases e : a = b
  · subst e; simp
  · have h : ¬ (Sum.inl a : Key) = Sum.inl b := fun q => e (Sum.inl.inj q)
    rw [decide_eq_false h]
    exact (beq_eq_false_iff_ne.mpr e).symm
theorem key_rr (a b : Str) : decide ((Sum.inr a : Key) = Sum.inr b) = decide (a = b) := by
  by_cases e : a = b
  · subst e; simp
  · have h : ¬ (Sum.inr a : Key) = Sum.inr b := fun q => e (Sum.inr.inj q)
    rw [decide_eq_false h, decide_eq_false e]
theorem key_lr (a : Int) (b : Str) : decide ((Sum.inl a : Key) = Sum.inr b) = false := decide_eq_false (fun q => nomatch q)
theorem key_rl (a : Str) (b : Int) : decide ((Sum.inr a : Key) = Sum.inl b) = false := decide_eq_false (fun q => nomatch q)
def mixKind (prog : Program) (w : World) : PySem.KeyKind prog w Key where
  is := keyIs
  hash := keyH w
  inj := fun v a b ha hb => by
    rcases keyIs_shape ha with ⟨i, t, rfl, rfl⟩ | ⟨x, t, rfl, rfl⟩
    · rcases keyIs_shape hb with ⟨j, u, rfl, e⟩ | ⟨y, u, rfl, e⟩
      · injection e with e1 _; rw [e1]
      · exact nomatch e
    · rcases keyIs_shape hb with ⟨j, u, rfl, e⟩ | ⟨y, u, rfl, e⟩
      · exact nomatch e
      · injection e with e1 _; rw [e1]
  byValue := fun k v h => by
    rcases keyIs_shape h with ⟨i, t, rfl, rfl⟩ | ⟨x, t, rfl, rfl⟩ <;> rfl
  pyHash := fun hv h => by
    rcases keyIs_shape hv with ⟨i, t, rfl, rfl⟩ | ⟨x, t, rfl, rfl⟩
    · exact wpAny_pyHash_int h
    · exact wpAny_pyHash_str h
  eqBool := fun hu hv h => by
    rcases keyIs_shape hu with ⟨i, t, rfl, rfl⟩ | ⟨x, t, rfl, rfl⟩
    · rcases keyIs_shape hv with ⟨j, u, rfl, rfl⟩ | ⟨y, u, rfl, rfl⟩
      · rw [key_ll] at h; exact wpAny_eqBool_int h
      · rw [key_lr] at h; exact SeqAt.EqAt.int_str i t y u _ _ _ _ h
    · rcases keyIs_shape hv with ⟨j, u, rfl, rfl⟩ | ⟨y, u, rfl, rfl⟩
      · rw [key_rl] at h; exact SeqAt.EqAt.str_int x t j u _ _ _ _ h
      · rw [key_rr] at h; exact wpAny_eqBool_str h
  «strs» := fun k x t v h => by
    rcases keyIs_shape h with ⟨i, u, rfl, e⟩ | ⟨y, u, rfl, e⟩
    · exact nomatch e
    · injection e with e1 _
      subst e1
      cases v <;> rfl
end L2
namespace L2
open PySem PySem.Spec PyProof.Rows
inductive V where
  | non | bl (b : Bool) | int (i : Int) | str (x : Str) | byt (b : Array UInt8) | flt (b : UInt64) | ref (a : Addr) | ty (n : String)
  deriving DecidableEq
def RelV : V → Value → Prop
  | .non, u => u = Value.none
  | .bl b, u => u = Value.bool b
  | .int i, u => ∃ t, u = Value.int i t
  | .str x, u => ∃ t, u = Value.str x t
  | .byt b, u => ∃ t, u = Value.bytes b t
  | .flt b, u => ∃ t, u = Value.float b t
  | .ref a, u => u = Value.ref a
  | .ty n, u => u = Value.type n
abbrev Vals : List V → List Value → Prop := Paired RelV
theorem Vals.length {xs : List V} {us : List Value} (r : Vals xs us) : xs.length = us.length := Paired.length r
theorem Vals.get : ∀ {xs : List V} {us : List Value} {i : Nat} {x : V}, Vals xs us → xs[i]? = some x → ∃ u, us[i]? = some u ∧ RelV x u
  | _, _, _, _, .nil, e => by simp at e
  | _, _, 0, _, .cons r _, e => by simp at e; subst e; exact ⟨_, rfl, r⟩
  | _, _, i + 1, x, .cons _ t, e => by
    obtain ⟨u, h1, h2⟩ := Vals.get (i := i) (x := x) t (by simpa using e)
    exact ⟨u, by simpa using h1, h2⟩
theorem Vals.set {x : V} {u : Value} (r : RelV x u) : ∀ {xs : List V} {us : List Value} (i : Nat), Vals xs us → Vals (xs.set i x) (us.set i u)
  | _, _, _, .nil => .nil
  | _, _, 0, .cons _ t => .cons r t
  | _, _, i + 1, .cons q t => .cons q (Vals.set r i t)
theorem Vals.append : ∀ {xs ys : List V} {us ws : List Value}, Vals xs us → Vals ys ws → Vals (xs ++ ys) (us ++ ws)
  | _, _, _, _, .nil, s => s
  | _, _, _, _, .cons r t, s => .cons r (Vals.append t s)
theorem Vals.take : ∀ {xs : List V} {us : List Value} (n : Nat), Vals xs us → Vals (xs.take n) (us.take n)
  | _, _, 0, _ => .nil
  | _, _, _ + 1, .nil => .nil
  | _, _, n + 1, .cons r t => .cons r (Vals.take n t)
theorem Vals.drop : ∀ {xs : List V} {us : List Value} (n : Nat), Vals xs us → Vals (xs.drop n) (us.drop n)
  | _, _, 0, r => r
  | _, _, _ + 1, .nil => .nil
  | _, _, n + 1, .cons _ t => Vals.drop n t
theorem Vals.none_of : ∀ {xs : List V} {us : List Value} {i : Nat}, Vals xs us → xs[i]? = none → us[i]? = none := fun {xs us i} r e => by
  have h1 := r.length
  have h2 : xs.length ≤ i := List.getElem?_eq_none_iff.mp e
  exact List.getElem?_eq_none_iff.mpr (by omega)
def RelO : Option V → Option Value → Prop
  | some v, some u => RelV v u
  | none, none => True
  | _, _ => False
def KV {κ : Type} : List (κ × V) → List (κ × Value) → Prop := Paired fun (p : κ × V) (q : κ × Value) => p.1 = q.1 ∧ RelV p.2 q.2
def kV : Key → V
  | .inl i => .int i
  | .inr x => .str x
inductive HO where
    | lst (xs : List V)
    | tup (xs : List V)
    | dK (kvs : List (Key × V)) | dT (kvs : List (List Key × V))
    | set (S : Int → Bool) (n : Nat)
    | ins (C dx : Addr) (fs : List (Str × V))
    | own (x : Addr)
    | xd (fs : List (Str × V))
    | met (f x : Addr)
    | rng (lo hi : Int)
    | frz (o : Obj) (u : HO)
    | tbl (ps : Array Value)
    | ext (φ : Heap → Prop)
abbrev Hp := Addr → Option HO
def upd (H : Hp) (a : Addr) (o : HO) : Hp := fun b => if b = a then some o else H b
theorem upd_same {H : Hp} {a : Addr} {o : HO} : upd H a o a = some o := by unfold upd; rw [if_pos rfl]
theorem upd_ne {H : Hp} {a b : Addr} {o : HO} (h : b ≠ a) : upd H a o b = H b := by unfold upd; rw [if_neg h]
theorem ne_of {H : Hp} {a b : Addr} {o u : HO} (h : H a = some o) (h' : H b = some u) (d : o ≠ u) : a ≠ b := by
  intro e; subst e; rw [h] at h'; exact d (Option.some.inj h')
theorem ne_of_none {H : Hp} {a b : Addr} {o : HO} (h : H a = some o) (h' : H b = none) : a ≠ b := by
  intro e; subst e; rw [h] at h'; cases h'
section
variable (P : Program) (w : World)
def ObjOk (H : Hp) (h : Heap) (a : Addr) : HO → Prop
  | .lst xs => xs.length ≤ sizeLine ∧ ∃ (its : List Value) (n : Nat), Vals xs its ∧ h.get? a = some { cls := .type "list", data := .seq its.toArray n }
  | .tup xs => xs.length ≤ sizeLine ∧ ∃ its : List Value, Vals xs its ∧ IsTup h a its.toArray
  | .dK kvs => kvs.length ≤ sizeLine ∧ (a == sysModules) = false ∧ ∃ vs, KV kvs vs ∧ h.DictOf (mixKind P w) a vs
  | .dT kvs => kvs.length ≤ sizeLine ∧ (a == sysModules) = false ∧ ∃ xs : List (List Key × Addr × Value),
      Paired (fun (p : List Key × V) (q : List Key × Addr × Value) => p.1 = q.1 ∧ H q.2.1 = some (.tup (p.1.map kV)) ∧ RelV p.2 q.2.2) kvs xs ∧
      ∃ o es ep, h.get? a = some o ∧ o.ExactDict ∧ o.data = .dict es ep ∧ es.toList = xs.map (entryOfKey (tupleKind (mixKind P w))) ∧ (xs.map (·.1)).Nodup
  | .set S n => h.SetOf (intKind P w) a S n
  | .ins C dx fs => H dx = some (.own a) ∧ fs.length ≤ 1000 ∧ dx ≠ a ∧ h.get? a = some (PySem.W.instObj C dx) ∧
      ∃ mA, h.Ns1 dx mA ∧ (∀ f, RelO (fs.lookup f) (mA f)) ∧ PySem.Within mA (fs.map (·.1))
  | .own _ => ∃ o, h.get? a = some o
  | .xd fs => ∃ mA, h.Ns1 a mA ∧ ∀ f, RelO (fs.lookup f) (mA f)
  | .rng lo hi => ∃ t u v, h.get? a = some { cls := .type "range", data := .fields #[.int lo t, .int hi u, .int 1 v] }
  | .frz o u => h.get? a = some o ∧ ObjOk H h a u
  | .tbl ps => h.get? a = some { cls := .none, data := .fields ps }
  | .met f x => h.get? a = some (PySem.W.methodObj (.ref f) (.ref x))
  | .ext φ => φ h ∧ (∃ o, h.get? a = some o) ∧ ∀ h1 h2 : Heap, φ h1 → (∀ o, h1.get? a = some o → h2.get? a = some o) → φ h2
def HOk (H : Hp) (h : Heap) : Prop := ∀ a o, H a = some o → ObjOk P w H h a o
end
section
variable {P : Program} {w : World} {H H' : Hp} {h h' : Heap} {a : Addr} {o : HO}
theorem ObjOk.lt (x : ObjOk P w H h a o) : a < h.objs.size := by
  cases o with
  | lst xs => obtain ⟨_, _, _, _, e⟩ := x; exact Heap.lt_size e
  | tup xs => obtain ⟨_, _, _, p⟩ := x; exact p.lt
  | dK kvs => obtain ⟨_, _, _, _, o, _, _, e, _⟩ := x; exact Heap.lt_size e
  | dT kvs => obtain ⟨_, _, _, _, o, _, _, e, _⟩ := x; exact Heap.lt_size e
  | set S n => obtain ⟨o, _, _, _, e, _⟩ := x; exact Heap.lt_size e
  | ins C dx fs => obtain ⟨_, _, _, e, _⟩ := x; exact Heap.lt_size e
  | own y => obtain ⟨_, e⟩ := x; exact Heap.lt_size e
  | xd fs => obtain ⟨_, ⟨_, _, _, e, _⟩, _⟩ := x; exact Heap.lt_size e
  | rng lo hi => obtain ⟨_, _, _, e⟩ := x; exact Heap.lt_size e
  | frz ob u => obtain ⟨e, _⟩ := x; exact Heap.lt_size e
  | tbl ps => exact Heap.lt_size (show h.get? a = some _ from x)
  | met f y => exact Heap.lt_size (show h.get? a = some _ from x)
  | ext φ => obtain ⟨_, ⟨_, e⟩, _⟩ := x; exact Heap.lt_size e
theorem Paired.mapP {α β : Type} {F G : α → β → Prop} : ∀ {l₁ : List α} {l₂ : List β}, Paired F l₁ l₂ → (∀ a b, F a b → G a b) → Paired G l₁ l₂
  | _, _, .nil, _ => .nil
  | _, _, .cons r t, f => .cons (f _ _ r) (Paired.mapP t f)
theorem ObjOk.stay (x : ObjOk P w H h a o) (k : ∀ b u, (b = a ∨ H b = some (.own a)) → h.get? b = some u → h'.get? b = some u)
    (ho : ∀ b, H b = some (.own a) → H' b = some (.own a)) (ht : ∀ b xs, H b = some (.tup xs) → H' b = some (.tup xs)) : ObjOk P w H' h' a o := by
  induction o with
  | lst xs => obtain ⟨z, its, n, r, e⟩ := x; exact ⟨z, its, n, r, k _ _ (.inl rfl) e⟩
  | tup xs => obtain ⟨z, its, r, ob, e, c⟩ := x; exact ⟨z, its, r, ob, k _ _ (.inl rfl) e, c⟩
  | dK kvs => obtain ⟨z, y, vs, r, ob, es, ep, e, c⟩ := x; exact ⟨z, y, vs, r, ob, es, ep, k _ _ (.inl rfl) e, c⟩
  | dT kvs =>
    obtain ⟨z, y, xs, r, ob, es, ep, e, c⟩ := x
    exact ⟨z, y, xs, Paired.mapP r fun p q z => ⟨z.1, ht _ _ z.2.1, z.2.2⟩, ob, es, ep, k _ _ (.inl rfl) e, c⟩
  | set S n => obtain ⟨ob, es, ep, t, e, c⟩ := x; exact ⟨ob, es, ep, t, k _ _ (.inl rfl) e, c⟩
  | ins C dx fs =>
    obtain ⟨d, z, ne, e, mA, ⟨od, es, ep, e2, c⟩, r⟩ := x
    exact ⟨ho _ d, z, ne, k _ _ (.inl rfl) e, mA, ⟨od, es, ep, k _ _ (.inr d) e2, c⟩, r⟩
  | own y => obtain ⟨ob, e⟩ := x; exact ⟨ob, k _ _ (.inl rfl) e⟩
  | xd fs => obtain ⟨mA, ⟨od, es, ep, e, c⟩, r⟩ := x; exact ⟨mA, ⟨od, es, ep, k _ _ (.inl rfl) e, c⟩, r⟩
  | rng lo hi => obtain ⟨t, u, v, e⟩ := x; exact ⟨t, u, v, k _ _ (.inl rfl) e⟩
  | frz ob u ih => obtain ⟨e, q⟩ := x; exact ⟨k _ _ (.inl rfl) e, ih q⟩
  | tbl ps =>
    have e : h.get? a = some { cls := .none, data := .fields ps } := x
    show h'.get? a = some { cls := .none, data := .fields ps }
    exact k a _ (.inl rfl) e
  | met f y =>
    have e : h.get? a = some (PySem.W.methodObj (.ref f) (.ref y)) := x
    show h'.get? a = some (PySem.W.methodObj (.ref f) (.ref y))
    exact k a _ (.inl rfl) e
  | ext φ => obtain ⟨p, ⟨o, e⟩, st⟩ := x; exact ⟨st _ _ p fun o q => k _ _ (.inl rfl) q, ⟨o, k _ _ (.inl rfl) e⟩, st⟩
theorem HOk.lt (x : HOk P w H h) (e : H a = some o) : a < h.objs.size := (x a o e).lt
theorem HOk.fresh (x : HOk P w H h) (e : h.objs.size ≤ a) : H a = none := by
  cases q : H a with
  | none => rfl
  | some u => exact absurd (Nat.lt_of_lt_of_le (x.lt q) e) (Nat.lt_irrefl _)
theorem HOk.kept (x : HOk P w H h) (k : ∀ b u, h.get? b = some u → h'.get? b = some u) : HOk P w H h' := fun a o e =>
  (x a o e).stay (fun b u _ q => k b u q) (fun _ q => q) fun _ _ q => q
theorem HOk.laid (x : HOk P w H h) (k : ∀ b u, h.get? b = some u → h'.get? b = some u) (hp : h.objs.size ≤ a) (new : ObjOk P w (upd H a o) h' a o) : HOk P w (upd H a o) h' := fun b u e => by
  have hn := x.fresh hp
  by_cases hb : b = a
  · subst hb; rw [upd_same] at e; cases e; exact new
  · rw [upd_ne hb] at e
    exact (x b u e).stay (fun c v _ q => k c v q) (fun c q => by rw [upd_ne (ne_of_none q hn)]; exact q) fun c xs q => by rw [upd_ne (ne_of_none q hn)]; exact q
end
def Rd (H : Hp) (a : Addr) (u : HO) : Prop := H a = some u ∨ ∃ o, H a = some (.frz o u)
theorem Rd.of {H : Hp} {a : Addr} {u : HO} (h : H a = some u) : Rd H a u := .inl h
theorem Rd.ok {P : Program} {w : World} {H : Hp} {h : Heap} {a : Addr} {u : HO} (r : Rd H a u) (x : HOk P w H h) : ObjOk P w H h a u := by
  rcases r with r | ⟨o, r⟩
  · exact x a u r
  · obtain ⟨_, q⟩ := x a _ r
    exact q
def Mut : Option HO → Prop
  | some (.lst _) => True
  | some (.dK _) => True
  | some (.dT _) => True
  | some (.set _ _) => True
  | some (.ins _ _ _) => True
  | some (.ext _) => True
  | _ => False
section
variable {P : Program} {w : World} {H : Hp} {h h' : Heap} {x e : Addr} {o' : HO}
theorem HOk.write (ok : HOk P w H h) (mu : Mut (H x)) (he : e = x ∨ H e = some (.own x)) (k : ∀ b u, b ≠ e → h.get? b = some u → h'.get? b = some u) (heo : ∃ u, h'.get? e = some u)
    (new : ObjOk P w (upd H x o') h' x o') : HOk P w (upd H x o') h' := fun b u q => by
  have nown : ∀ c y, H c = some (.own y) → c ≠ x := fun c y r z => by subst z; rw [r] at mu; exact mu
  have ntup : ∀ c xs, H c = some (.tup xs) → c ≠ x := fun c xs r z => by subst z; rw [r] at mu; exact mu
  by_cases hb : b = x
  · subst hb; rw [upd_same] at q; cases q; exact new
  · rw [upd_ne hb] at q
    by_cases hbe : b = e
    · have q' : H b = some (.own x) := by
        rcases he with z | z
        · exact absurd (hbe.trans z) hb
        · rw [hbe]; exact z
      rw [q] at q'; cases q'
      obtain ⟨v, hv⟩ := heo
      exact ⟨v, by rw [hbe]; exact hv⟩
    · refine (ok b u q).stay (fun c v hc r => k c v ?_ r) (fun c r => by rw [upd_ne (nown c b r)]; exact r) fun c xs r => by rw [upd_ne (ntup c xs r)]; exact r
      rcases hc with rfl | hc
      · exact hbe
      · rintro rfl
        rcases he with z | z
        · exact nown c b hc z
        · rw [hc] at z; cases z; exact hb rfl
end
structure Un (fs ex : List Addr) (H H' : Hp) (h h' : Heap) : Prop where
  keep : ∀ b o, h.get? b = some o → H b = none → b ∉ fs → b ∉ ex → h'.get? b = some o
  slot : ∀ b o, h.get? b = some o → H b = none → b ∈ fs → b ∉ ex → ∃ sl, h'.get? b = some { o with slots := sl }
  free : ∀ b o, h.get? b = some o → H b = none → b ∉ ex → H' b = none
  there : ∀ b o, h.get? b = some o → b ∉ ex → ∃ o', h'.get? b = some o'
  tups : ∀ b xs, H b = some (.tup xs) → H' b = some (.tup xs)
  frzs : ∀ b o u, H b = some (.frz o u) → H' b = some (.frz o u)
  tbls : ∀ b ps, H b = some (.tbl ps) → ∃ more, H' b = some (.tbl (ps ++ more))
section
variable {fs fs' ex ex' : List Addr} {H H1 H2 : Hp} {h h1 h2 h' : Heap} {a x e : Addr} {o : HO}
theorem Un.any (u : Un fs ex H H1 h h1) {b : Addr} {ob : Obj} (q : h.get? b = some ob) (n : H b = none) (hx : b ∉ ex) : ∃ sl, h1.get? b = some { ob with slots := sl } := by
  by_cases hb : b ∈ fs
  · exact u.slot b ob q n hb hx
  · exact ⟨ob.slots, u.keep b ob q n hb hx⟩
theorem Un.trans (a : Un fs ex H H1 h h1) (b : Un fs ex H1 H2 h1 h2) : Un fs ex H H2 h h2 where
  keep := fun c ob q n hc hx => b.keep c ob (a.keep c ob q n hc hx) (a.free c ob q n hx) hc hx
  slot := fun c ob q n hc hx => by
    obtain ⟨sl, e1⟩ := a.slot c ob q n hc hx
    obtain ⟨sl', e2⟩ := b.slot c _ e1 (a.free c ob q n hx) hc hx
    exact ⟨sl', e2⟩
  free := fun c ob q n hx => by
    obtain ⟨o', e1⟩ := a.there c ob q hx
    exact b.free c o' e1 (a.free c ob q n hx) hx
  there := fun c ob q hx => by
    obtain ⟨o', e1⟩ := a.there c ob q hx
    exact b.there c o' e1 hx
  tups := fun c xs q => b.tups c xs (a.tups c xs q)
  frzs := fun c ob xs q => b.frzs c ob xs (a.frzs c ob xs q)
  tbls := fun c ps q => by
    obtain ⟨m1, e1⟩ := a.tbls c ps q
    obtain ⟨m2, e2⟩ := b.tbls c _ e1
    exact ⟨m1 ++ m2, by rw [e2, Array.append_assoc]⟩
theorem Un.kept (k : ∀ b u, h.get? b = some u → h'.get? b = some u) : Un fs ex H H h h' :=
  ⟨fun b ob q _ _ _ => k b ob q, fun b ob q _ _ _ => ⟨ob.slots, k b ob q⟩, fun _ _ _ n _ => n, fun b ob q _ => ⟨ob, k b ob q⟩, fun _ _ q => q, fun _ _ _ q => q, fun _ ps q => ⟨#[], by rw [q]; simp⟩⟩
theorem Un.refl : Un fs ex H H h h := Un.kept fun _ _ q => q
theorem Un.laid (k : ∀ b u, h.get? b = some u → h'.get? b = some u) (hp : h.objs.size ≤ a) (hn : H a = none) : Un fs ex H (upd H a o) h h' where
  keep := fun b u q _ _ _ => k b u q
  slot := fun b u q _ _ _ => ⟨u.slots, k b u q⟩
  free := fun b u q n _ => by rw [upd_ne (Nat.ne_of_lt (Nat.lt_of_lt_of_le (Heap.lt_size q) hp))]; exact n
  there := fun b u q _ => ⟨u, k b u q⟩
  tups := fun b xs q => by rw [upd_ne (ne_of_none q hn)]; exact q
  frzs := fun b u xs q => by rw [upd_ne (ne_of_none q hn)]; exact q
  tbls := fun b ps q => ⟨#[], by rw [upd_ne (ne_of_none q hn), q]; simp⟩
theorem Un.write (mu : Mut (H x)) (he : e = x ∨ H e = some (.own x)) (k : ∀ b u, b ≠ e → h.get? b = some u → h'.get? b = some u) (heo : ∃ u, h'.get? e = some u) : Un fs ex H (upd H x o) h h' := by
  have hx : ∀ b, H b = none → b ≠ x := fun b n z => by subst z; rw [n] at mu; exact mu
  have hb : ∀ b, H b = none → b ≠ e := fun b n z => by
    subst z
    rcases he with r | r
    · exact hx b n r
    · rw [n] at r; cases r
  have hm : ∀ b u, H b = some u → ¬ Mut (some u) → b ≠ x := fun b u q nm z => by subst z; rw [q] at mu; exact nm mu
  refine ⟨fun b u q n _ _ => k b u (hb b n) q, fun b u q n _ _ => ⟨u.slots, k b u (hb b n) q⟩, fun b u q n _ => by rw [upd_ne (hx b n)]; exact n, fun b u q _ => ?_,
    fun b xs q => by rw [upd_ne (hm b _ q fun z => z)]; exact q, fun b u xs q => by rw [upd_ne (hm b _ q fun z => z)]; exact q, fun b ps q => ⟨#[], by rw [upd_ne (hm b _ q fun z => z), q]; simp⟩⟩
  by_cases hbe : b = e
  · subst hbe; exact heo
  · exact ⟨u, k b u hbe q⟩
theorem Un.mono (u : Un fs ex H H1 h h1) (hs : ∀ b ∈ fs, b ∈ fs') (hx : ∀ b ∈ ex, b ∈ ex') : Un fs' ex' H H1 h h1 :=
  ⟨fun b ob q n hb he => u.keep b ob q n (fun z => hb (hs b z)) fun z => he (hx b z), fun _ _ q n _ he => u.any q n fun z => he (hx _ z), fun b ob q n he => u.free b ob q n fun z => he (hx b z), fun b ob q he => u.there b ob q fun z => he (hx b z), u.tups, u.frzs, u.tbls⟩
end
def trk (h : Heap) (H : Hp) : List Addr := (List.range h.objs.size).filter fun a => (H a).isSome
def hidT (h : Heap) (H : Hp) : Heap := PySem.W.hideAll h (trk h H)
theorem hidT_size (h : Heap) (H : Hp) : (hidT h H).objs.size = h.objs.size := PySem.W.hideAll_size _ _
theorem hidT_get {h : Heap} {H : Hp} {b : Addr} {o : Obj} (e : h.get? b = some o) (n : H b = none) : (hidT h H).get? b = some o :=
  PySem.W.hideAll_get _ e fun hm => by
    have q : (H b).isSome = true := (List.mem_filter.mp hm).2
    rw [n] at q; simp at q
theorem of_hidT {h : Heap} {H : Hp} {b : Addr} {o : Obj} (e : (hidT h H).get? b = some o) : h.get? b = some o ∧ H b = none := by
  have e' : h.get? b = some o := PySem.W.of_hideAll (trk h H) e
  refine ⟨e', ?_⟩
  cases q : H b with
  | none => rfl
  | some x =>
    have hm : b ∈ trk h H := List.mem_filter.mpr ⟨List.mem_range.mpr (Heap.lt_size e'), by simp [q]⟩
    have z : (hidT h H).get? b = none := PySem.W.hideAll_none (trk h H) hm
    rw [z] at e; cases e
def allNews (g h : Heap) (L : Addr) : List (Addr × Obj) := (List.range h.objs.size).filterMap fun a => if a = L ∨ (g.get? a).isSome = true then none else (h.get? a).map fun o => (a, o)
def rest (g h : Heap) (L d : Addr) : List (Addr × Obj) := (allNews g h L).filter fun p => decide (p.1 ≠ d)
end L2
namespace L2
open PySem PySem.Spec PyProof.Rows
structure Mod (K : PySem.W.Frag) (mg : Str → Option Value) (base : Heap) : Prop where
  kin : K.In base
  glob : base.Ns mainGlobals mg
  blt : ∃ mb, base.Ns builtinsNs mb ∧ ∀ x : Str, x ≠ "__name__" → mb x = bootBuiltins x
  nolimit : base.NoLimit
structure Cx where
  prog : Program
  w : World
  K : PySem.W.Frag
  mg : Str → Option Value
  base : Heap
  A : Around
  N : List Str
  s₀ : Shared
  H₀ : Hp
  env : Env
  outer : List Env
  stack : List Env
  ex : List Addr
  fn : Str → Bool
  calm : Bool
  pn : List (Addr × Obj)
  xe : Value → Shared → Prop
def frs (l : List Env) : List Addr := l.filterMap (·.frame)
abbrev Cx.fs (X : Cx) : List Addr := frs X.outer
def Vis (sc : Scope) (x : Str) : Prop := sc.names.lookup x = some .local ∨ sc.names.lookup x = some .cell ∨ sc.names.lookup x = some .free
def Loc (sc : Scope) (x : Str) : Prop := sc.names.lookup x = some .local ∨ sc.names.lookup x = some .cell
def Look (env : Env) (h : Heap) (m : Str → Option Value) (x : Str) (u : Value) : Prop :=
  (env.kindOf x = some .local ∧ m x = some u) ∨ ((env.kindOf x = some .cell ∨ env.kindOf x = some .free) ∧ ∃ c, env.cells.lookup x = some c ∧ h.IsCell c (some u))
structure Cx.Ok (X : Cx) : Prop where
  mod : Mod X.K X.mg X.base
  kind : X.env.scope.kind = .function
  glob : X.env.globals = mainGlobals
  blt : X.env.builtins = builtinsNs
  above : X.s₀.heap.objs.size ≤ X.env.locals
  inj : ∀ x y c, X.env.cells.lookup x = some c → X.env.cells.lookup y = some c → x = y
  has : ∀ x, (X.env.kindOf x = some .cell ∨ X.env.kindOf x = some .free) → ∃ c, X.env.cells.lookup x = some c
  cab : ∀ x c, X.fn x = true → X.env.cells.lookup x = some c → X.s₀.heap.objs.size ≤ c
  hd : X.calm = true → X.A.handled = none
  frames : X.A.frames = some X.stack
  stk : X.stack = X.outer ∨ (X.stack = X.env :: X.outer ∧ X.env.frame = some X.env.locals)
  exf : ∀ b ∈ X.ex, b ≠ X.env.locals ∧ ∀ x c, X.env.cells.lookup x = some c → c ≠ b
  bs : ∀ b o, X.base.get? b = some o → X.s₀.heap.get? b = some o ∧ X.H₀ b = none
  bsz : X.base.objs.size ≤ X.s₀.heap.objs.size
  noex : ∀ b o, X.base.get? b = some o → b ∉ X.ex
  exfs : ∀ b ∈ X.ex, b ∉ X.fs
  funs : X.s₀.heap.FunFrames X.base X.outer
  frf : ∀ b ∈ X.fs, X.H₀ b = none
structure Inv (X : Cx) (pins : List (Addr × Obj)) (σ : List (Option V)) (H : Hp) (s : Shared) : Prop where
  ok : X.Ok
  os : s.os = X.s₀.os
  bare : AllBare s.gens
  base : Un X.fs X.ex X.H₀ H X.s₀.heap s.heap
  loc : ∃ m, s.heap.Ns X.env.locals m ∧ ∀ (i : Nat) (x : Str) (v : V), X.N[i]? = some x → σ[i]? = some (some v) → Vis X.env.scope x → ∃ u, RelV v u ∧ Look X.env s.heap m x u
  cell : ∀ x c, X.env.cells.lookup x = some c → ∃ v, s.heap.IsCell c v
  free : H X.env.locals = none
  freeC : ∀ x c, X.env.cells.lookup x = some c → H c = none
  pin : ∀ p ∈ X.pn ++ pins, s.heap.get? p.1 = some p.2 ∧ H p.1 = none ∧ p.1 ≠ X.env.locals ∧ p.1 ∉ X.fs ∧ ∀ v, p.2.data ≠ .cell v
  hok : HOk X.prog X.w H s.heap
  len : σ.length = X.N.length
section
variable {X : Cx} {pins : List (Addr × Obj)} {σ : List (Option V)} {H H' : Hp} {s : Shared} {h' : Heap}
theorem Cx.Ok.nofr (ok : X.Ok) {b : Addr} {o : Obj} (e : X.base.get? b = some o) : b ∉ X.fs := fun hb => by
  have := (ok.funs.mem hb).1
  rw [e] at this; cases this
theorem Inv.bs (I : Inv X pins σ H s) : ∀ b o, X.base.get? b = some o → s.heap.get? b = some o ∧ H b = none := fun b o e =>
  ⟨I.base.keep b o (I.ok.bs b o e).1 (I.ok.bs b o e).2 (I.ok.nofr e) (I.ok.noex b o e), I.base.free b o (I.ok.bs b o e).1 (I.ok.bs b o e).2 (I.ok.noex b o e)⟩
theorem Inv.bk (I : Inv X pins σ H s) : ∀ b o, X.base.get? b = some o → s.heap.get? b = some o := fun b o e => (I.bs b o e).1
theorem Inv.mod (I : Inv X pins σ H s) : Mod X.K X.mg X.base := I.ok.mod
theorem Inv.kIn (I : Inv X pins σ H s) : X.K.In s.heap := I.ok.mod.kin.keeps I.bk
theorem Inv.nolimit (I : Inv X pins σ H s) : s.heap.NoLimit := I.ok.mod.nolimit.keeps I.bk
theorem Inv.lt (I : Inv X pins σ H s) : X.env.locals < s.heap.objs.size := let ⟨_, hn, _⟩ := I.loc; hn.lt
theorem Inv.sz (I : Inv X pins σ H s) : X.s₀.heap.objs.size ≤ s.heap.objs.size := Nat.le_trans I.ok.above (Nat.le_of_lt I.lt)
theorem Inv.nofs (I : Inv X pins σ H s) {a : Addr} (h : s.heap.objs.size ≤ a) : a ∉ X.fs := fun hb => by
  obtain ⟨_, o, ho, _⟩ := I.ok.funs.mem hb
  exact absurd (Nat.lt_of_lt_of_le (Heap.lt_size ho) (Nat.le_trans I.sz h)) (Nat.lt_irrefl _)
theorem Inv.cne (I : Inv X pins σ H s) : ∀ x c, X.env.cells.lookup x = some c → c ≠ X.env.locals := fun x c e z => by
  obtain ⟨v, o, ho, hd⟩ := I.cell x c e
  obtain ⟨m, ⟨o', es, ep, ho', hd', _⟩, _⟩ := I.loc
  rw [z, ho'] at ho; cases ho; rw [hd'] at hd; cases hd
theorem Inv.funs (I : Inv X pins σ H s) : s.heap.FunFrames X.base X.outer := by
  have all : ∀ (l : List Env), (∀ b ∈ frs l, b ∈ X.fs) → X.s₀.heap.FunFrames X.base l → s.heap.FunFrames X.base l := by
    intro l
    induction l with
    | nil => intro _ _; trivial
    | cons env r ih =>
      intro hs hl
      obtain ⟨hk, ⟨L, o, hf, hn, ho, hd⟩, hr⟩ := hl
      have hL : L ∈ X.fs := hs L (by unfold frs; rw [List.filterMap_cons, hf]; exact List.mem_cons_self)
      obtain ⟨sl, e⟩ := I.base.slot L o ho (I.ok.frf L hL) hL fun z => I.ok.exfs L z hL
      exact ⟨hk, ⟨L, _, hf, hn, e, hd⟩, ih (fun b hb => hs b (by unfold frs; rw [List.filterMap_cons, hf]; exact List.mem_cons_of_mem _ hb)) hr⟩
  exact all X.outer (fun _ hb => hb) I.ok.funs
theorem Inv.stack (I : Inv X pins σ H s) : s.heap.FunFrames X.base X.stack := by
  rcases I.ok.stk with e | ⟨e, hf⟩
  · rw [e]; exact I.funs
  · rw [e]
    obtain ⟨m, hn, _⟩ := I.loc
    refine .cons (by rw [I.ok.kind]; decide) hf hn ?_ I.funs
    exact Heap.get?_none_of_le (Nat.le_trans I.ok.bsz I.ok.above)
theorem Inv.stkSub (I : Inv X pins σ H s) : ∀ b ∈ frs X.stack, b ∈ X.env.locals :: X.fs := fun b hb => by
  rcases I.ok.stk with e | ⟨e, hf⟩
  · rw [e] at hb; exact List.mem_cons_of_mem _ hb
  · rw [e] at hb
    unfold frs at hb
    rw [List.filterMap_cons, hf] at hb
    exact hb
theorem Inv.stkFree (I : Inv X pins σ H s) : ∀ b ∈ frs X.stack, H b = none := fun b hb => by
  rcases List.mem_cons.mp (I.stkSub b hb) with e | hb
  · rw [e]; exact I.free
  · obtain ⟨_, o, ho, _⟩ := I.ok.funs.mem hb
    exact I.base.free b o ho (I.ok.frf b hb) fun z => I.ok.exfs b z hb
theorem Inv.step {g' : Array GenState} {t' : Nat} {d' : Drawn} {ch : List Addr} (I : Inv X pins σ H s)
    (hch : ∀ b ∈ ch, (b ∈ X.ex ∨ X.s₀.heap.objs.size ≤ b) ∧ b ≠ X.env.locals ∧ (∀ x c, X.env.cells.lookup x = some c → c ≠ b) ∧ ∀ p ∈ X.pn ++ pins, p.1 ≠ b)
    (keep : ∀ b o, b ≠ X.env.locals → b ∉ X.fs → b ∉ ch → s.heap.get? b = some o → H b = none → h'.get? b = some o)
    (slot : ∀ b o, b ≠ X.env.locals → b ∈ X.fs → b ∉ ch → s.heap.get? b = some o → H b = none → ∃ sl, h'.get? b = some { o with slots := sl }) (free : ∀ b o, b ∉ ch → s.heap.get? b = some o → H b = none → H' b = none)
    (there : ∀ b o, b ∉ ch → s.heap.get? b = some o → ∃ o', h'.get? b = some o')
    (tups : ∀ b xs, H b = some (.tup xs) → H' b = some (.tup xs)) (frzs : ∀ b o u, H b = some (.frz o u) → H' b = some (.frz o u)) (tbls : ∀ b ps, H b = some (.tbl ps) → ∃ more, H' b = some (.tbl (ps ++ more)))
    (ns : ∀ m, s.heap.Ns X.env.locals m → h'.Ns X.env.locals m) (hok : HOk X.prog X.w H' h') (hg : AllBare g') :
    Inv X pins σ H' { s with heap := h', gens := g', drawn := d', toks := t' } := by
  have neL : ∀ b o, X.s₀.heap.get? b = some o → b ≠ X.env.locals := fun b o e => Nat.ne_of_lt (Nat.lt_of_lt_of_le (Heap.lt_size e) I.ok.above)
  have neC : ∀ b o, X.s₀.heap.get? b = some o → b ∉ X.ex → b ∉ ch := fun b o e hx hb => by
    rcases (hch b hb).1 with z | z
    · exact hx z
    · exact absurd (Nat.lt_of_lt_of_le (Heap.lt_size e) z) (Nat.lt_irrefl _)
  have cellK : ∀ x c, X.env.cells.lookup x = some c → ∀ v, s.heap.IsCell c v → h'.IsCell c v := fun x c e v ⟨o, ho, hd⟩ => by
    have nch : c ∉ ch := fun z => (hch c z).2.2.1 x c e rfl
    by_cases hc : c ∈ X.fs
    · obtain ⟨sl, q⟩ := slot c o (I.cne x c e) hc nch ho (I.freeC x c e)
      exact ⟨_, q, hd⟩
    · exact ⟨o, keep c o (I.cne x c e) hc nch ho (I.freeC x c e), hd⟩
  refine ⟨I.ok, I.os, hg, ⟨fun b o e n hb hx => ?_, fun b o e n hb hx => ?_, fun b o e n hx => ?_, fun b o e hx => ?_, fun b xs e => tups b xs (I.base.tups b xs e), fun b o xs e => frzs b o xs (I.base.frzs b o xs e), fun b ps e => ?_⟩, ?_, fun x c e => ?_, ?_, fun x c e => ?_, fun p hp => ?_, hok, I.len⟩
  · exact keep b o (neL b o e) hb (neC b o e hx) (I.base.keep b o e n hb hx) (I.base.free b o e n hx)
  · obtain ⟨sl, e1⟩ := I.base.slot b o e n hb hx
    obtain ⟨sl', e2⟩ := slot b _ (neL b o e) hb (neC b o e hx) e1 (I.base.free b o e n hx)
    exact ⟨sl', e2⟩
  · obtain ⟨o', e1⟩ := I.base.there b o e hx
    exact free b o' (neC b o e hx) e1 (I.base.free b o e n hx)
  · obtain ⟨o', e1⟩ := I.base.there b o e hx
    exact there b o' (neC b o e hx) e1
  · obtain ⟨m1, e1⟩ := I.base.tbls b ps e
    obtain ⟨m2, e2⟩ := tbls b _ e1
    exact ⟨m1 ++ m2, by rw [e2, Array.append_assoc]⟩
  · obtain ⟨m, hn, hl⟩ := I.loc
    refine ⟨m, ns m hn, fun i x v e1 e2 e3 => ?_⟩
    obtain ⟨u, r, l⟩ := hl i x v e1 e2 e3
    refine ⟨u, r, ?_⟩
    rcases l with l | ⟨k, c, e, z⟩
    · exact .inl l
    · exact .inr ⟨k, c, e, cellK x c e _ z⟩
  · obtain ⟨v, z⟩ := I.cell x c e
    exact ⟨v, cellK x c e v z⟩
  · obtain ⟨m, ⟨o, _, _, ho, _⟩, _⟩ := I.loc
    exact free _ o (fun z => (hch _ z).2.1 rfl) ho I.free
  · obtain ⟨v, o, ho, hd⟩ := I.cell x c e
    exact free c o (fun z => (hch c z).2.2.1 x c e rfl) ho (I.freeC x c e)
  · obtain ⟨e, n, ne, nf, d⟩ := I.pin p hp
    have nch : p.1 ∉ ch := fun z => (hch p.1 z).2.2.2 p hp rfl
    exact ⟨keep p.1 p.2 ne nf nch e n, free p.1 p.2 nch e n, ne, nf, d⟩
theorem Inv.un {t' : Nat} (I : Inv X pins σ H s) (u : Un X.fs [] H H' s.heap h') (hok : HOk X.prog X.w H' h') : Inv X pins σ H' { s with heap := h', toks := t' } := by
  obtain ⟨m, ⟨o, es, ep, ho, r⟩, _⟩ := id I.loc
  obtain ⟨sl, hL⟩ := u.any ho I.free (by simp)
  exact I.step (g' := s.gens) (d' := s.drawn) (ch := []) (fun _ z => nomatch z) (fun b o _ hb _ e n => u.keep b o e n hb (by simp)) (fun b o _ hb _ e n => u.slot b o e n hb (by simp)) (fun b o _ e n => u.free b o e n (by simp)) (fun b o _ e => u.there b o e (by simp)) u.tups u.frzs u.tbls (fun m' hm => by
    obtain ⟨o', es', ep', ho', r'⟩ := hm
    rw [ho] at ho'; cases ho'
    exact ⟨_, es', ep', hL, r'⟩) hok I.bare
theorem Inv.call {g' : Array GenState} {t' : Nat} {d' : Drawn} {ch : List Addr} (I : Inv X pins σ H s) (u : Un (frs X.stack) ch H H' s.heap h') (hok : HOk X.prog X.w H' h') (hg : AllBare g')
    (hch : ∀ b ∈ ch, (b ∈ X.ex ∨ X.s₀.heap.objs.size ≤ b) ∧ b ≠ X.env.locals ∧ (∀ x c, X.env.cells.lookup x = some c → c ≠ b) ∧ ∀ p ∈ X.pn ++ pins, p.1 ≠ b) :
    Inv X pins σ H' { s with heap := h', gens := g', drawn := d', toks := t' } := by
  obtain ⟨m, ⟨o, es, ep, ho, r⟩, _⟩ := id I.loc
  obtain ⟨sl, hL⟩ := u.any ho I.free fun z => (hch _ z).2.1 rfl
  exact I.step (ch := ch) hch (fun b o hL hb hc e n => u.keep b o e n (fun z => (List.mem_cons.mp (I.stkSub b z)).elim hL hb) hc) (fun b o _ _ hc e n => u.any e n hc) (fun b o hc e n => u.free b o e n hc) (fun b o hc e => u.there b o e hc) u.tups u.frzs u.tbls (fun m' hm => by
    obtain ⟨o', es', ep', ho', r'⟩ := hm
    rw [ho] at ho'; cases ho'
    exact ⟨_, es', ep', hL, r'⟩) hok hg
theorem Inv.turned {t' : Nat} {it : Addr} (I : Inv X pins σ H s) (k : ∀ b o, b ≠ it → s.heap.get? b = some o → h'.get? b = some o) (hn : H it = none) (hL : it ≠ X.env.locals)
    (h1 : it ∈ X.ex ∨ X.s₀.heap.objs.size ≤ it) (h2 : ∀ x c, X.env.cells.lookup x = some c → c ≠ it) (h3 : ∀ p ∈ X.pn ++ pins, p.1 ≠ it) : Inv X pins σ H { s with heap := h', toks := t' } := by
  have nit : ∀ b u, H b = some u → b ≠ it := fun b u e z => by rw [z, hn] at e; cases e
  refine I.step (g' := s.gens) (d' := s.drawn) (ch := [it]) (fun b hb => ?_) (fun b o _ _ hc e _ => k b o (fun z => hc (by simp [z])) e) (fun b o _ _ hc e _ => ⟨o.slots, k b o (fun z => hc (by simp [z])) e⟩) (fun _ _ _ _ n => n)
    (fun b o hc e => ⟨o, k b o (fun z => hc (by simp [z])) e⟩) (fun _ _ e => e) (fun _ _ _ e => e) (fun b ps e => ⟨#[], by rw [e]; simp⟩) (fun m hm => ?_) (fun b u e => ?_) I.bare
  · have e : b = it := by simpa using hb
    subst e
    exact ⟨h1, hL, h2, h3⟩
  · obtain ⟨o, es, ep, ho, r⟩ := hm
    exact ⟨o, es, ep, k _ o (Ne.symm hL) ho, r⟩
  · refine (I.hok b u e).stay (fun c v hc q => k c v ?_ q) (fun _ q => q) fun _ _ q => q
    rcases hc with z | z
    · rw [z]; exact nit b u e
    · exact nit c _ z
theorem Inv.tok (I : Inv X pins σ H s) (t : Nat) : Inv X pins σ H { s with toks := t } := I.un (h' := s.heap) (t' := t) Un.refl I.hok
theorem Inv.kept {t' : Nat} (I : Inv X pins σ H s) (k : ∀ b u, s.heap.get? b = some u → h'.get? b = some u) : Inv X pins σ H { s with heap := h', toks := t' } := I.un (Un.kept k) (I.hok.kept k)
theorem Inv.laid {a : Addr} {o : HO} {t' : Nat} (I : Inv X pins σ H s) (k : ∀ b u, s.heap.get? b = some u → h'.get? b = some u) (hp : s.heap.objs.size ≤ a) (new : ObjOk X.prog X.w (upd H a o) h' a o) :
    Inv X pins σ (upd H a o) { s with heap := h', toks := t' } := I.un (Un.laid k hp (I.hok.fresh hp)) (I.hok.laid k hp new)
theorem Inv.write {x e : Addr} {o : HO} {t' : Nat} (I : Inv X pins σ H s) (mu : Mut (H x)) (he : e = x ∨ H e = some (.own x)) (k : ∀ b u, b ≠ e → s.heap.get? b = some u → h'.get? b = some u) (heo : ∃ u, h'.get? e = some u)
    (new : ObjOk X.prog X.w (upd H x o) h' x o) : Inv X pins σ (upd H x o) { s with heap := h', toks := t' } := I.un (Un.write mu he k heo) (I.hok.write mu he k heo new)
theorem Inv.weak {σ' : List (Option V)} (I : Inv X pins σ H s) (hl : σ'.length = σ.length) (w : ∀ (i : Nat) v, σ'[i]? = some (some v) → σ[i]? = some (some v)) : Inv X pins σ' H s :=
  ⟨I.ok, I.os, I.bare, I.base, let ⟨m, hn, hl'⟩ := I.loc; ⟨m, hn, fun i x v e1 e2 e3 => hl' i x v e1 (w i v e2) e3⟩, I.cell, I.free, I.freeC, I.pin, I.hok, hl.trans I.len⟩
theorem Inv.pins_of {pins' : List (Addr × Obj)} (I : Inv X pins σ H s) (h : ∀ p ∈ pins', s.heap.get? p.1 = some p.2 ∧ H p.1 = none ∧ p.1 ≠ X.env.locals ∧ p.1 ∉ X.fs ∧ ∀ v, p.2.data ≠ .cell v) : Inv X pins' σ H s :=
  ⟨I.ok, I.os, I.bare, I.base, I.loc, I.cell, I.free, I.freeC, fun p hp => (List.mem_append.mp hp).elim (fun z => I.pin p (List.mem_append_left _ z)) (h p), I.hok, I.len⟩
theorem nodup_ix {N : List Str} (hN : N.Nodup) {i j : Nat} {x : Str} (a : N[i]? = some x) (b : N[j]? = some x) : i = j := by
  obtain ⟨h1, e1⟩ := List.getElem?_eq_some_iff.mp a
  obtain ⟨h2, e2⟩ := List.getElem?_eq_some_iff.mp b
  exact (List.getElem_inj hN).mp (e1.trans e2.symm)
theorem store_ok2 {M : Model} {A : Around} {E : Value → Shared → Prop} {i : Nat} {x : Str} {v : V} {u : Value} {Q : Unit → Shared → Prop} (I : Inv X pins σ H s) (hN : X.N.Nodup) (hi : X.N[i]? = some x) (hx : Loc X.env.scope x) (r : RelV v u)
    (h : ∀ s', Inv X pins (σ.set i (some v)) H s' → (∃ a, Heap.SameBut a s.heap s'.heap ∧ (a = X.env.locals ∨ X.env.cells.lookup x = some a)) → Q () s') (hf : X.fn x = true ∨ X.env.scope.names.lookup x = some .local := by first | exact .inl rfl | exact .inr rfl | assumption) : wpAny M A (storeName X.env x u) Q E s := by
  obtain ⟨m, hn, hl⟩ := id I.loc
  have hcls : (X.env.scope.kind == .class || (X.env.scope.kind == .module && X.env.locals != X.env.globals)) = false := by rw [I.ok.kind]; rfl
  have hiσ : i < σ.length := by rw [I.len]; exact (List.getElem?_eq_some_iff.mp hi).1
  have cne := I.cne
  have tracked : ∀ {a : Addr} {h' : Heap}, (∃ o, s.heap.get? a = some o ∧ H a = none) → Heap.SameBut a s.heap h' → HOk X.prog X.w H h' := fun {a h'} ha hs b ob e => by
    obtain ⟨_, _, hfree⟩ := ha
    refine (I.hok b ob e).stay (fun c w' hc q => (hs.2 c ?_).trans q) (fun _ q => q) fun _ _ q => q
    rintro rfl
    rcases hc with rfl | hc
    · rw [hfree] at e; cases e
    · rw [hfree] at hc; cases hc
  rcases hx with hk | hk
  · refine wpAny_storeName_local hk hn (fun h' hn' hs => ?_) hcls
    obtain ⟨oL, _, _, hoL, _⟩ := id hn
    refine h _ ⟨I.ok, I.os, I.bare, ⟨fun b o e n hb hx => ?_, fun b o e n hb hx => ?_, I.base.free, fun b o e hx => ?_, I.base.tups, I.base.frzs, I.base.tbls⟩, ⟨_, hn', fun j y v' e1 e2 e3 => ?_⟩, fun y c e => ?_, I.free, I.freeC, fun p hp => ?_, tracked ⟨oL, hoL, I.free⟩ hs, by simpa using I.len⟩ ⟨_, hs, .inl rfl⟩
    · exact (hs.2 b (Nat.ne_of_lt (Nat.lt_of_lt_of_le (Heap.lt_size e) I.ok.above))).trans (I.base.keep b o e n hb hx)
    · obtain ⟨sl, e1⟩ := I.base.slot b o e n hb hx
      exact ⟨sl, (hs.2 b (Nat.ne_of_lt (Nat.lt_of_lt_of_le (Heap.lt_size e) I.ok.above))).trans e1⟩
    · obtain ⟨o', e1⟩ := I.base.there b o e hx
      exact ⟨o', (hs.2 b (Nat.ne_of_lt (Nat.lt_of_lt_of_le (Heap.lt_size e) I.ok.above))).trans e1⟩
    · by_cases hj : j = i
      · subst hj
        rw [hi] at e1; cases e1
        rw [List.getElem?_set_self hiσ] at e2
        cases e2
        exact ⟨u, r, .inl ⟨hk, by simp⟩⟩
      · rw [List.getElem?_set_ne (Ne.symm hj)] at e2
        obtain ⟨u', r', q⟩ := hl j y v' e1 e2 e3
        refine ⟨u', r', ?_⟩
        rcases q with ⟨k, e⟩ | ⟨k, c, e, z⟩
        · refine .inl ⟨k, ?_⟩
          have : y ≠ x := fun e => hj (nodup_ix hN e1 (e ▸ hi))
          simp [this, e]
        · exact .inr ⟨k, c, e, z.sameBut hs (cne y c e)⟩
    · obtain ⟨w', z⟩ := I.cell y c e
      exact ⟨w', z.sameBut hs (cne y c e)⟩
    · obtain ⟨e, n, ne, nf, d⟩ := I.pin p hp
      exact ⟨(hs.2 p.1 ne).trans e, n, ne, nf, d⟩
  · have hfn : X.fn x = true := by
      rcases hf with z | z
      · exact z
      · rw [z] at hk; cases hk
    obtain ⟨c, hc⟩ := I.ok.has x (.inl hk)
    obtain ⟨w', z⟩ := I.cell x c hc
    refine wpAny_storeName_cell I.ok.kind hk hc z (fun h' hc' hs => ?_)
    obtain ⟨oc, hoc, hocd⟩ := id z
    refine h { s with heap := h' } ⟨I.ok, I.os, I.bare, ⟨fun b o e n hb hx => ?_, fun b o e n hb hx => ?_, I.base.free, fun b o e hx => ?_, I.base.tups, I.base.frzs, I.base.tbls⟩, ⟨m, hn.sameBut hs (Ne.symm (cne x c hc)), fun j y v' e1 e2 e3 => ?_⟩, fun y c' e => ?_, I.free, I.freeC, fun p hp => ?_, tracked ⟨oc, hoc, I.freeC x c hc⟩ hs, by simpa using I.len⟩ ⟨c, hs, .inr hc⟩
    · exact (hs.2 b (Nat.ne_of_lt (Nat.lt_of_lt_of_le (Heap.lt_size e) (I.ok.cab x c hfn hc)))).trans (I.base.keep b o e n hb hx)
    · obtain ⟨sl, e1⟩ := I.base.slot b o e n hb hx
      exact ⟨sl, (hs.2 b (Nat.ne_of_lt (Nat.lt_of_lt_of_le (Heap.lt_size e) (I.ok.cab x c hfn hc)))).trans e1⟩
    · obtain ⟨o', e1⟩ := I.base.there b o e hx
      exact ⟨o', (hs.2 b (Nat.ne_of_lt (Nat.lt_of_lt_of_le (Heap.lt_size e) (I.ok.cab x c hfn hc)))).trans e1⟩
    · by_cases hj : j = i
      · subst hj
        rw [hi] at e1; cases e1
        rw [List.getElem?_set_self hiσ] at e2
        cases e2
        exact ⟨u, r, .inr ⟨.inl hk, c, hc, hc'⟩⟩
      · rw [List.getElem?_set_ne (Ne.symm hj)] at e2
        obtain ⟨u', r', q⟩ := hl j y v' e1 e2 e3
        refine ⟨u', r', ?_⟩
        rcases q with q | ⟨k, c', e, z'⟩
        · exact .inl q
        · refine .inr ⟨k, c', e, z'.sameBut hs ?_⟩
          rintro rfl
          exact hj (nodup_ix hN e1 (I.ok.inj _ _ _ e hc ▸ hi))
    · by_cases hcc : c' = c
      · subst hcc; exact ⟨_, hc'⟩
      · obtain ⟨w2, z2⟩ := I.cell y c' e
        exact ⟨w2, z2.sameBut hs hcc⟩
    · obtain ⟨e, n, ne, nf, d⟩ := I.pin p hp
      refine ⟨(hs.2 p.1 ?_).trans e, n, ne, nf, d⟩
      intro q
      rw [q, hoc] at e
      have q' : oc = p.2 := Option.some.inj e
      exact d w' (by rw [← q']; exact hocd)
theorem store_ok {M : Model} {A : Around} {E : Value → Shared → Prop} {i : Nat} {x : Str} {v : V} {u : Value} {Q : Unit → Shared → Prop} (I : Inv X pins σ H s) (hN : X.N.Nodup) (hi : X.N[i]? = some x) (hx : Loc X.env.scope x) (r : RelV v u)
    (h : ∀ s', Inv X pins (σ.set i (some v)) H s' → Q () s') (hf : X.fn x = true ∨ X.env.scope.names.lookup x = some .local := by first | exact .inl rfl | exact .inr rfl | assumption) : wpAny M A (storeName X.env x u) Q E s :=
  store_ok2 I hN hi hx r (fun s' I' _ => h s' I') hf
theorem Inv.call' {s' : Shared} {ch : List Addr} (I : Inv X pins σ H s) (ho : s'.os = s.os) (u : Un (frs X.stack) ch H H' s.heap s'.heap) (hok : HOk X.prog X.w H' s'.heap) (hg : AllBare s'.gens)
    (hch : ∀ b ∈ ch, (b ∈ X.ex ∨ X.s₀.heap.objs.size ≤ b) ∧ b ≠ X.env.locals ∧ (∀ x c, X.env.cells.lookup x = some c → c ≠ b) ∧ ∀ p ∈ X.pn ++ pins, p.1 ≠ b) : Inv X pins σ H' s' := by
  obtain ⟨h', g', d', t', o'⟩ := s'
  have e : o' = s.os := ho
  subst e
  exact I.call (g' := g') (t' := t') (d' := d') u hok hg hch
end
abbrev XK := Value → Option Addr → Hp → Prop
abbrev St := List (Option V)
abbrev VK := V → Hp → Prop
abbrev TE := St → Hp → VK → Prop
abbrev TT := St → Hp → (Bool → Hp → Prop) → Prop
abbrev TA := St → Hp → (List V → Hp → Prop) → Prop
structure Ends where
  nx : St → Hp → Prop
  rt : VK
  bk : St → Hp → Prop := fun _ _ => False
  ct : St → Hp → Prop := fun _ _ => False
abbrev TS := Ends → St → Hp → Prop
def EP (X : Cx) (pins : List (Addr × Obj)) (σ : St) (Q : VK) (u : Value) (s' : Shared) : Prop := ∃ v H', Inv X pins σ H' s' ∧ RelV v u ∧ Q v H'
def TP (X : Cx) (pins : List (Addr × Obj)) (σ : St) (Q : Bool → Hp → Prop) (b : Bool) (s' : Shared) : Prop := ∃ H', Inv X pins σ H' s' ∧ Q b H'
def AP (X : Cx) (pins : List (Addr × Obj)) (σ : St) (Q : List V → Hp → Prop) (us : List Value) (s' : Shared) : Prop := ∃ vs H', Inv X pins σ H' s' ∧ Vals vs us ∧ Q vs H'
def SP (X : Cx) (pins : List (Addr × Obj)) (D : Ends) (f : Flow) (s' : Shared) : Prop :=
  match f with
  | .next => ∃ σ' H', Inv X pins σ' H' s' ∧ D.nx σ' H'
  | .brk => ∃ σ' H', Inv X pins σ' H' s' ∧ D.bk σ' H'
  | .cont => ∃ σ' H', Inv X pins σ' H' s' ∧ D.ct σ' H'
  | .ret u => ∃ v σ' H', Inv X pins σ' H' s' ∧ RelV v u ∧ D.rt v H'
def PE (X : Cx) (e : Expr) (t : TE) : Prop :=
  ∀ (pins : List (Addr × Obj)) (s : Shared) (σ : St) (H : Hp) (Q : VK), Inv X pins σ H s → t σ H Q → wpAny (model X.prog X.w) X.A (eval e X.env) (EP X pins σ Q) X.xe s
def PT (X : Cx) (e : Expr) (t : TT) : Prop :=
  ∀ (pins : List (Addr × Obj)) (s : Shared) (σ : St) (H : Hp) (Q : Bool → Hp → Prop), Inv X pins σ H s → t σ H Q → wpAny (model X.prog X.w) X.A (isTrue e X.env (eval e X.env)) (TP X pins σ Q) X.xe s
def PW (X : Cx) (e : Expr) (t : TT) : Prop :=
  ∀ (whole : Sem Value) (pins : List (Addr × Obj)) (s : Shared) (σ : St) (H : Hp) (Q : Bool → Hp → Prop), Inv X pins σ H s → t σ H Q → wpAny (model X.prog X.w) X.A (isTrue e X.env whole) (TP X pins σ Q) X.xe s
theorem PW.pt {X : Cx} {e : Expr} {t : TT} (h : PW X e t) : PT X e t := h _
def PA (X : Cx) (es : List Expr) (t : TA) : Prop :=
  ∀ (pos : Pos) (pins : List (Addr × Obj)) (s : Shared) (σ : St) (H : Hp) (Q : List V → Hp → Prop), Inv X pins σ H s → t σ H Q → wpAny (model X.prog X.w) X.A (spliced (backTo pos (starEach es X.env))) (AP X pins σ Q) X.xe s
def PS (X : Cx) (st : Stmt) (t : TS) : Prop :=
  ∀ (pins : List (Addr × Obj)) (s : Shared) (σ : St) (H : Hp) (D : Ends), Inv X pins σ H s → t D σ H → wpAny (model X.prog X.w) X.A (exec st X.env) (SP X pins D) X.xe s
def PSs (X : Cx) (st : List Stmt) (t : TS) : Prop :=
  ∀ (pins : List (Addr × Obj)) (s : Shared) (σ : St) (H : Hp) (D : Ends), Inv X pins σ H s → t D σ H → wpAny (model X.prog X.w) X.A (execs st X.env) (SP X pins D) X.xe s
theorem thn {α : Type} {t : Sem α} {Q Q' : α → Shared → Prop} {M : Model} {A : Around} {E : Value → Shared → Prop} {s : Shared} (h : wpAny M A t Q E s) (hQ : ∀ a s, Q a s → Q' a s) : wpAny M A t Q' E s := wpAny_mono h hQ fun _ _ x => x
end L2
namespace L2
open PySem PySem.Spec PyProof.Rows
section
variable {X : Cx}
def tVar (i : Nat) : TE := fun σ H Q => ∃ v, σ[i]? = some (some v) ∧ Q v H
def tC (v : V) : TE := fun _ H Q => Q v H
theorem pe_var {i : Nat} {x : Str} {pos : Pos} (hN : X.N[i]? = some x) (hv : Vis X.env.scope x) (hd : (x == ("__debug__" : Str)) = false := by decide) (hcd : (x == ("__classdict__" : Str)) = false := by decide) : PE X (.Name x pos) (tVar i) := by
  intro pins s σ H Q I h
  obtain ⟨v, e, h⟩ := h
  obtain ⟨m, hn, hl⟩ := I.loc
  obtain ⟨u, r, l⟩ := hl i x v hN e hv
  have fin : EP X pins σ Q u s := ⟨v, H, I, r, h⟩
  rcases l with ⟨hk, hm⟩ | ⟨hk, c, hc, hcell⟩
  · exact wpAny_Name (wpAny_loadName_local I.ok.kind hk hn hm fin) hd
  · rcases hk with hk | hk
    · exact wpAny_Name (wpAny_loadName_cell I.ok.kind hk hc hcell fin) hd
    · exact wpAny_Name (wpAny_loadName_free I.ok.kind hk hc hcell fin hcd) hd
theorem pe_int {i j pos} : PE X (.Constant (.int i) j pos) (tC (.int i)) := fun _ _ _ H _ I h => wpAny_Constant_int ⟨.int i, H, I.tok _, ⟨_, rfl⟩, h⟩
theorem pe_bl {b j pos} : PE X (.Constant (.bool b) j pos) (tC (.bl b)) := fun _ _ _ H _ I h => Constant_bool ⟨.bl b, H, I, rfl, h⟩
theorem pe_str {x j pos} : PE X (.Constant (.str x) j pos) (tC (.str x)) := fun _ _ _ H _ I h => Calls.Constant_str ⟨.str x, H, I.tok _, ⟨_, rfl⟩, h⟩
def Gl (X : Cx) (x : Str) : Prop := X.env.kindOf x = some .globalImplicit
theorem ld_glob {E : Value → Shared → Prop} {pins : List (Addr × Obj)} {s : Shared} {σ : St} {H : Hp} {x : Str} {u : Value} {pos : Pos} {Q : Value → Shared → Prop} (I : Inv X pins σ H s) (hg : Gl X x) (hm : X.mg x = some u) (h : Q u s)
    (hd : (x == ("__debug__" : Str)) = false := by decide) : wpAny (model X.prog X.w) X.A (eval (.Name x pos) X.env) Q E s :=
  Calls.Name_function_global I.ok.kind hg (Calls.loadGlobal_global (by rw [I.ok.glob]; exact I.mod.glob.keeps I.bk) hm h) hd
theorem ld_blt {E : Value → Shared → Prop} {pins : List (Addr × Obj)} {s : Shared} {σ : St} {H : Hp} {x : Str} {u : Value} {pos : Pos} {Q : Value → Shared → Prop} (I : Inv X pins σ H s) (hg : Gl X x) (hm : X.mg x = none) (hv : bootBuiltins x = some u) (h : Q u s)
    (hn : x ≠ "__name__" := by decide) (hd : (x == ("__debug__" : Str)) = false := by decide) : wpAny (model X.prog X.w) X.A (eval (.Name x pos) X.env) Q E s := by
  obtain ⟨mb, h1, h2⟩ := I.mod.blt
  exact Calls.Name_function_global I.ok.kind hg (Calls.loadGlobal_builtin (by rw [I.ok.glob]; exact I.mod.glob.keeps I.bk) hm (by rw [I.ok.blt]; exact h1.keeps I.bk) ((h2 x hn).trans hv) h) hd
theorem pe_bltn {x : Str} {v : V} {u : Value} {pos : Pos} (hg : Gl X x) (hm : X.mg x = none) (hv : bootBuiltins x = some u) (r : RelV v u) (hn : x ≠ "__name__" := by decide) (hd : (x == ("__debug__" : Str)) = false := by decide) : PE X (.Name x pos) (tC v) :=
  fun _ _ _ H _ I h => ld_blt I hg hm hv ⟨v, H, I, r, h⟩ hn hd
variable {a b : Expr} {ta tb : TE} {pos : Pos}
def tB (t : TE) : TT := fun σ H Q => t σ H fun x H1 => ∃ c, x = .bl c ∧ Q c H1
theorem pt_val {e : Expr} {t : TE} (h : PE X e t) (he : ∀ whole, isTrue e X.env whole = (do let v ← whole; standAt e.pos; holding [v] (truthy v)) := by intro _; rfl) : PT X e (tB t) := by
  intro pins s σ H Q I hw
  refine isTrue_plain (thn (h pins s σ H _ I hw) fun v s1 ⟨x, H1, I1, r1, q1⟩ => ?_) (he _)
  obtain ⟨d, rfl, q⟩ := q1
  cases r1
  exact wpAny_truthy_bool ⟨H1, I1, q⟩
variable {tA tB' : TT} {rest : List Expr}
def tAnd (t u : TT) : TT := fun σ H Q => t σ H fun c H1 => if c = true then u σ H1 Q else Q false H1
def tOr (t u : TT) : TT := fun σ H Q => t σ H fun c H1 => if c = true then Q true H1 else u σ H1 Q
def tNot (t : TT) : TT := fun σ H Q => t σ H fun c H1 => Q (!c) H1
theorem pw_and1 (ha : PT X a tA) : PW X (.BoolOp .And [a] pos) tA := by
  intro wh pins s σ H Q I h
  refine isTrue_and (thn (ha pins s σ H Q I h) fun c s1 e => ?_)
  cases c with
  | true => exact isTrue_and_nil e
  | false => exact e
theorem pw_or1 (ha : PT X a tA) : PW X (.BoolOp .Or [a] pos) tA := by
  intro wh pins s σ H Q I h
  refine isTrue_or (thn (ha pins s σ H Q I h) fun c s1 e => ?_)
  cases c with
  | false => exact isTrue_or_nil e
  | true => exact e
theorem pw_and (ha : PT X a tA) (hb : PW X (.BoolOp .And (b :: rest) pos) tB') : PW X (.BoolOp .And (a :: b :: rest) pos) (tAnd tA tB') := by
  intro wh pins s σ H Q I h
  refine isTrue_and (thn (ha pins s σ H _ I h) fun c s1 ⟨H1, I1, q1⟩ => ?_)
  cases c with
  | true => exact hb wh pins s1 σ H1 Q I1 q1
  | false => exact ⟨H1, I1, q1⟩
theorem pw_or (ha : PT X a tA) (hb : PW X (.BoolOp .Or (b :: rest) pos) tB') : PW X (.BoolOp .Or (a :: b :: rest) pos) (tOr tA tB') := by
  intro wh pins s σ H Q I h
  refine isTrue_or (thn (ha pins s σ H _ I h) fun c s1 ⟨H1, I1, q1⟩ => ?_)
  cases c with
  | true => exact ⟨H1, I1, q1⟩
  | false => exact hb wh pins s1 σ H1 Q I1 q1
theorem pt_not (ha : PT X a tA) : PT X (.UnaryOp .Not a pos) (tNot tA) := by
  intro pins s σ H Q I h
  exact isTrue_not (ha pins s σ H (fun c H1 => Q (!c) H1) I h)
def tAndV (ta tb : TE) : TE := fun σ H Q => ta σ H fun x H1 => ∃ c, x = .bl c ∧ if c = true then tb σ H1 Q else Q (.bl false) H1
def tNotV (ta : TE) : TE := fun σ H Q => ta σ H fun x H1 => ∃ c, x = .bl c ∧ Q (.bl (!c)) H1
theorem pe_one {op} {t : TE} (h : PE X a t) : PE X (.BoolOp op [a] pos) t := fun pins s σ H Q I hw => BoolOp_one (h pins s σ H Q I hw)
theorem pe_and (ha : PE X a ta) (hb : PE X (.BoolOp .And (b :: rest) pos) tb) : PE X (.BoolOp .And (a :: b :: rest) pos) (tAndV ta tb) := by
  intro pins s σ H Q I h
  refine BoolOp_and (thn (ha pins s σ H _ I h) fun v s1 ⟨x, H1, I1, r1, q1⟩ => ?_)
  obtain ⟨c, rfl, q1⟩ := q1
  cases r1
  refine wpAny_truthy_bool ?_
  cases c with
  | true => exact hb pins s1 σ H1 Q I1 q1
  | false => exact ⟨.bl false, H1, I1, rfl, q1⟩
theorem pe_not (ha : PE X a ta) : PE X (.UnaryOp .Not a pos) (tNotV ta) := by
  intro pins s σ H Q I h
  refine UnaryOp_ (thn (ha pins s σ H _ I h) fun v s1 ⟨x, H1, I1, r1, q1⟩ => ?_)
  obtain ⟨c, rfl, q1⟩ := q1
  cases r1
  exact not_of (wpAny_truthy_bool ⟨.bl (!c), H1, I1, rfl, q1⟩)
def tIf (t : TT) (ta tb : TE) : TE := fun σ H Q => t σ H fun c H1 => if c = true then ta σ H1 Q else tb σ H1 Q
theorem pe_ifExp {c : Expr} (hc : PT X c tA) (ha : PE X a ta) (hb : PE X b tb) : PE X (.IfExp c a b pos) (tIf tA ta tb) := by
  intro pins s σ H Q I h
  refine wpAny_IfExp (thn (hc pins s σ H _ I h) fun d s1 ⟨H1, I1, q1⟩ => ?_)
  cases d with
  | true => exact ha pins s1 σ H1 Q I1 q1
  | false => exact hb pins s1 σ H1 Q I1 q1
end
end L2
namespace L2
open PySem PySem.Spec PyProof.Rows
def SqL (K : PySem.W.Frag) (H : Hp) (a : Addr) (xs : List V) : Prop :=
  Rd H a (.lst xs) ∨
    ∃ (o : Obj) (its : Array Value) (n : Nat), K.lookup a = some o ∧ o.cls = .type "list" ∧ o.dict = none ∧ o.data = .seq its n ∧ its.size ≤ sizeLine ∧ Vals xs its.toList
def SqT (K : PySem.W.Frag) (H : Hp) (a : Addr) (xs : List V) : Prop :=
  Rd H a (.tup xs) ∨
    ∃ (o : Obj) (its : Array Value) (n : Nat), K.lookup a = some o ∧ o.cls = .type "tuple" ∧ o.data = .seq its n ∧ its.size ≤ sizeLine ∧ Vals xs its.toList
def absV : Value → Option V
  | .none => some .non
  | .bool b => some (.bl b)
  | .int i _ => some (.int i)
  | .str x _ => some (.str x)
  | .bytes b _ => some (.byt b)
  | .float b _ => some (.flt b)
  | .ref a => some (.ref a)
  | .type n => some (.ty n)
  | _ => none
theorem RelV.abs {x : V} {u : Value} (r : RelV x u) : absV u = some x := by
  cases x with
  | non => cases r; rfl
  | bl _ => cases r; rfl
  | int _ => obtain ⟨t, rfl⟩ := r; rfl
  | str _ => obtain ⟨t, rfl⟩ := r; rfl
  | byt _ => obtain ⟨t, rfl⟩ := r; rfl
  | flt _ => obtain ⟨t, rfl⟩ := r; rfl
  | ref _ => cases r; rfl
  | ty _ => cases r; rfl
theorem RelV.inj {x y : V} {u : Value} (r : RelV x u) (q : RelV y u) : x = y := Option.some.inj (r.abs.symm.trans q.abs)
theorem Vals.inj : ∀ {xs ys : List V} {us : List Value}, Vals xs us → Vals ys us → xs = ys
  | _, _, _, .nil, .nil => rfl
  | _, _, _, .cons r t, .cons r' t' => by rw [r.inj r', Vals.inj t t']
section
variable {X : Cx} {pins : List (Addr × Obj)} {σ : St} {H : Hp} {s : Shared} {a : Addr} {xs ys : List V}
theorem SqL.of {K : PySem.W.Frag} (h : H a = some (.lst xs)) : SqL K H a xs := .inl (.inl h)
theorem SqT.of {K : PySem.W.Frag} (h : H a = some (.tup xs)) : SqT K H a xs := .inl (.inl h)
theorem Inv.list (I : Inv X pins σ H s) (h : SqL X.K H a xs) : ∃ its : List Value, Vals xs its ∧ PlainL s.heap a its.toArray ∧ xs.length ≤ sizeLine := by
  rcases h with h | ⟨o, its, n, hk, hc, hd, hs, hz, r⟩
  · obtain ⟨z, its, n, r, e⟩ := h.ok I.hok
    exact ⟨its, r, ⟨_, n, e, rfl, rfl, rfl⟩, z⟩
  · refine ⟨its.toList, r, ⟨o, n, I.kIn a o hk, hc, hd, by simpa using hs⟩, ?_⟩
    have e := r.length
    simp only [Array.length_toList] at e
    omega
theorem Inv.tuple (I : Inv X pins σ H s) (h : SqT X.K H a xs) : ∃ its : List Value, Vals xs its ∧ IsTup s.heap a its.toArray ∧ xs.length ≤ sizeLine := by
  rcases h with h | ⟨o, its, n, hk, hc, hs, hz, r⟩
  · obtain ⟨z, its, r, p⟩ := h.ok I.hok
    exact ⟨its, r, p, z⟩
  · refine ⟨its.toList, r, ⟨o, I.kIn a o hk, hc, n, by simpa using hs⟩, ?_⟩
    have e := r.length
    simp only [Array.length_toList] at e
    omega
theorem Inv.list_inj (I : Inv X pins σ H s) (h : SqL X.K H a xs) (h' : SqL X.K H a ys) : xs = ys := by
  obtain ⟨its, r, ⟨o, n, e, _, _, d⟩, _⟩ := I.list h
  obtain ⟨its', r', ⟨o', n', e', _, _, d'⟩, _⟩ := I.list h'
  rw [e] at e'; cases e'
  rw [d] at d'
  injection d' with d1 _
  have : its = its' := by simpa using congrArg Array.toList d1
  subst this
  exact r.inj r'
end
abbrev Cx.wish (X : Cx) (E : Value → Shared → Prop) : Cx := { X with xe := E }
abbrev Cx.nox (X : Cx) : Cx := X.wish fun _ _ => False
theorem Cx.Ok.wish {X : Cx} (ok : X.Ok) (E : Value → Shared → Prop) : (X.wish E).Ok :=
  ⟨ok.mod, ok.kind, ok.glob, ok.blt, ok.above, ok.inj, ok.has, ok.cab, ok.hd, ok.frames, ok.stk, ok.exf, ok.bs, ok.bsz, ok.noex, ok.exfs, ok.funs, ok.frf⟩
theorem Cx.Ok.unwish {X : Cx} {E : Value → Shared → Prop} (ok : (X.wish E).Ok) : X.Ok :=
  ⟨ok.mod, ok.kind, ok.glob, ok.blt, ok.above, ok.inj, ok.has, ok.cab, ok.hd, ok.frames, ok.stk, ok.exf, ok.bs, ok.bsz, ok.noex, ok.exfs, ok.funs, ok.frf⟩
section
variable {X : Cx} {pins : List (Addr × Obj)} {σ : St} {H : Hp} {s : Shared} {E : Value → Shared → Prop}
theorem Inv.wish (I : Inv X pins σ H s) (E : Value → Shared → Prop) : Inv (X.wish E) pins σ H s := ⟨I.ok.wish E, I.os, I.bare, I.base, I.loc, I.cell, I.free, I.freeC, I.pin, I.hok, I.len⟩
theorem Inv.unwish (I : Inv (X.wish E) pins σ H s) : Inv X pins σ H s := ⟨I.ok.unwish, I.os, I.bare, I.base, I.loc, I.cell, I.free, I.freeC, I.pin, I.hok, I.len⟩
theorem SP.unwish {D : Ends} {f : Flow} {s' : Shared} (h : SP (X.wish E) pins D f s') : SP X pins D f s' := by
  cases f with
  | next => obtain ⟨σ', H', I, q⟩ := h; exact ⟨σ', H', I.unwish, q⟩
  | brk => obtain ⟨σ', H', I, q⟩ := h; exact ⟨σ', H', I.unwish, q⟩
  | cont => obtain ⟨σ', H', I, q⟩ := h; exact ⟨σ', H', I.unwish, q⟩
  | ret u => obtain ⟨v, σ', H', I, r, q⟩ := h; exact ⟨v, σ', H', I.unwish, r, q⟩
theorem PE.nox {e : Expr} {t : TE} (h : PE X.nox e t) : PE X e t := fun pins s σ H Q I hw =>
  wpAny_mono (h pins s σ H Q (I.wish _) hw) (fun _ _ ⟨v, H', I', r, q⟩ => ⟨v, H', I'.unwish, r, q⟩) fun _ _ z => False.elim z
theorem PT.nox {e : Expr} {t : TT} (h : PT X.nox e t) : PT X e t := fun pins s σ H Q I hw =>
  wpAny_mono (h pins s σ H Q (I.wish _) hw) (fun _ _ ⟨H', I', q⟩ => ⟨H', I'.unwish, q⟩) fun _ _ z => False.elim z
theorem PSs.nox {st : List Stmt} {t : TS} (h : PSs X.nox st t) : PSs X st t := fun pins s σ H D I hw =>
  wpAny_mono (h pins s σ H D (I.wish _) hw) (fun _ _ q => q.unwish) fun _ _ z => False.elim z
end
section
variable {X : Cx} {st : Stmt} {rest : List Stmt} {t u : TS} {e : Expr} {te : TE} {pos : Pos}
def tNext : TS := fun D σ H => D.nx σ H
def tSeq (t u : TS) : TS := fun D σ H => t { D with nx := u D } σ H
theorem pss_nil : PSs X [] tNext := fun _ _ σ H _ I h => wpAny_execs_nil ⟨σ, H, I, h⟩
theorem pss_cons (h1 : PS X st t) (h2 : PSs X rest u) : PSs X (st :: rest) (tSeq t u) := by
  intro pins s σ H D I h
  refine wpAny_execs_cons (thn (h1 pins s σ H { D with nx := u D } I h) fun f s1 q => ?_)
  cases f with
  | next =>
    obtain ⟨σ', H', I', q⟩ := q
    exact h2 pins s1 σ' H' D I' q
  | ret v => exact q
  | brk => exact q
  | cont => exact q
theorem pss_one (h1 : PS X st t) : PSs X [st] t := by
  intro pins s σ H D I h
  refine wpAny_execs_cons (thn (h1 pins s σ H D I h) fun f s1 q => ?_)
  cases f with
  | next => exact wpAny_execs_nil q
  | ret v => exact q
  | brk => exact q
  | cont => exact q
theorem Inv.quiet {pins : List (Addr × Obj)} {σ : St} {H : Hp} {s : Shared} (I : Inv X pins σ H s) : interactive X.env = false := by simp [interactive, I.ok.kind]
def tDrop (te : TE) : TS := fun D σ H => te σ H fun _ H1 => D.nx σ H1
theorem ps_expr (he : PE X e te) (hs : swapsWith e none pos.line X.env = pure false := by rfl) : PS X (.Expr e pos) (tDrop te) := by
  intro pins s σ H D I h
  exact wpAny_Expr_any (thn (he pins s σ H _ I h) fun v s1 ⟨x, H1, I1, r1, q1⟩ => ⟨σ, H1, I1, q1⟩) I.quiet hs
def tRet (te : TE) : TS := fun D σ H => te σ H D.rt
theorem ps_ret (he : PE X e te) : PS X (.Return (some e) pos) (tRet te) := by
  intro pins s σ H D I h
  exact wpAny_Return_some (thn (he pins s σ H _ I h) fun v s1 ⟨x, H1, I1, r1, q1⟩ => ⟨x, σ, H1, I1, r1, q1⟩)
def tIfS (c : TT) (t u : TS) : TS := fun D σ H => c σ H fun b H1 => if b = true then t D σ H1 else u D σ H1
theorem ps_if {c : Expr} {a b : List Stmt} {tc : TT} (hc : PT X c tc) (ha : PSs X a t) (hb : PSs X b u) : PS X (.If c a b pos) (tIfS tc t u) := by
  intro pins s σ H D I h
  refine wpAny_If (thn (hc pins s σ H _ I h) fun d s1 ⟨H1, I1, q1⟩ => ?_)
  cases d with
  | true => exact ha pins s1 σ H1 D I1 q1
  | false => exact hb pins s1 σ H1 D I1 q1
def tNever : TS := fun _ _ _ => False
theorem ps_never : PS X st tNever := fun _ _ _ _ _ _ h => h.elim
theorem pss_never {sts : List Stmt} : PSs X sts tNever := fun _ _ _ _ _ _ h => h.elim
end
abbrev TG := V → St → Hp → (St → Hp → Prop) → Prop
abbrev TGs := List V → St → Hp → (St → Hp → Prop) → Prop
def PG (X : Cx) (target : Expr) (t : TG) : Prop :=
  ∀ (pins : List (Addr × Obj)) (s : Shared) (σ : St) (H : Hp) (v : V) (u : Value) (Q : St → Hp → Prop), Inv X pins σ H s → RelV v u → t v σ H Q →
    wpAny (model X.prog X.w) X.A (assign target X.env u) (fun _ s' => ∃ σ' H', Inv X pins σ' H' s' ∧ Q σ' H') X.xe s
def PGs (X : Cx) (ts : List Expr) (t : TGs) : Prop :=
  ∀ (pins : List (Addr × Obj)) (s : Shared) (σ : St) (H : Hp) (vs : List V) (us : List Value) (Q : St → Hp → Prop), Inv X pins σ H s → Vals vs us → t vs σ H Q →
    wpAny (model X.prog X.w) X.A (assignInOrder ((assignEach ts X.env).map (·.2)) us) (fun _ s' => ∃ σ' H', Inv X pins σ' H' s' ∧ Q σ' H') X.xe s
section
variable {X : Cx} {pos : Pos}
def gName (i : Nat) : TG := fun v σ H Q => Q (σ.set i (some v)) H
theorem pg_name {i : Nat} {x : Str} (hN : X.N.Nodup) (hi : X.N[i]? = some x) (hx : Loc X.env.scope x) (hf : X.fn x = true ∨ X.env.scope.names.lookup x = some .local := by first | exact .inl rfl | exact .inr rfl | assumption) : PG X (.Name x pos) (gName i) := by
  intro pins s σ H v u Q I r h
  exact wpAny_assign_Name (store_ok I hN hi hx r (fun s' I' => ⟨_, H, I', h⟩) hf)
def gNil : TGs := fun vs σ H Q => vs = [] ∧ Q σ H
def gCons (t : TG) (u : TGs) : TGs := fun vs σ H Q => ∃ v r, vs = v :: r ∧ t v σ H fun σ' H' => u r σ' H' Q
theorem pgs_nil : PGs X [] gNil := by
  intro pins s σ H vs us Q I r h
  obtain ⟨e, h⟩ := h
  subst e
  cases r
  exact assignInOrder_nil ⟨σ, H, I, h⟩
theorem pgs_cons {e : Expr} {es : List Expr} {t : TG} {u : TGs} (h1 : PG X e t) (h2 : PGs X es u)
    (hs : (assignEach (e :: es) X.env).map (·.2) = assign e X.env :: (assignEach es X.env).map (·.2) := by rfl) : PGs X (e :: es) (gCons t u) := by
  intro pins s σ H vs us Q I r h
  obtain ⟨v, vr, e1, h⟩ := h
  subst e1
  cases r with
  | cons r rr =>
    rw [hs]
    refine assignInOrder_cons (thn (h1 pins s σ H _ _ _ I r h) fun _ s1 ⟨σ1, H1, I1, q1⟩ => ?_)
    exact h2 pins s1 σ1 H1 _ _ Q I1 rr q1
def gTup (K : PySem.W.Frag) (n : Nat) (t : TGs) : TG := fun v σ H Q => ∃ a xs, v = .ref a ∧ SqT K H a xs ∧ xs.length = n ∧ t xs σ H Q
theorem pg_tup {es : List Expr} {k : Nat} {t : TGs} {n : Nat} (hc : X.calm = true) (h : PGs X es t)
    (hn : (assignEach es X.env).length = n := by rfl) (hst : (assignEach es X.env).findIdx? (·.1) = none := by rfl) : PG X (.Tuple es k pos) (gTup X.K n t) := by
  intro pins s σ H v u Q I r hw
  obtain ⟨a, xs, e1, hq, hl, hw⟩ := hw
  subst e1
  cases r
  obtain ⟨its, rv, ht, hz⟩ := I.tuple hq
  refine assign_Tuple_tuple (I.ok.hd hc) ht (by simp [hn, ← hl, rv.length]) hst fun h' hx => ?_
  have I1 : Inv X pins σ H { s with heap := h' } := I.kept (t' := s.toks) fun b o e => hx b o (Nat.ne_of_lt (Heap.lt_size e)) e
  exact h pins _ σ H xs _ Q I1 (by simpa using rv) hw
def tAsg (te : TE) (g : TG) : TS := fun D σ H => te σ H fun x H1 => g x σ H1 D.nx
theorem ps_asg {tg e : Expr} {te : TE} {g : TG} (he : PE X e te) (hg : PG X tg g) (hs : swapsWithSole [tg] e pos.line X.env = pure false := by rfl) (hw : swappedStores [tg] e X.env = pure none := by rfl)
    (h1 : (assignEach [tg] X.env).map (·.2) = [assign tg X.env] := by rfl) : PS X (.Assign [tg] e pos) (tAsg te g) := by
  intro pins s σ H D I h
  refine wpAny_Assign_stores (thn (he pins s σ H _ I h) fun v s1 ⟨x, H1, I1, r1, q1⟩ => ?_) hs hw
  rw [h1]
  exact thn (hg pins s1 σ H1 x v _ I1 r1 q1) fun _ s2 q => q
theorem ps_set {i : Nat} {x : Str} {e : Expr} {te : TE} {pos' : Pos} (hN : X.N.Nodup) (hi : X.N[i]? = some x) (hx : Loc X.env.scope x) (he : PE X e te) (hs : swapsWith e (some (.Name x pos')) pos.line X.env = pure false := by rfl) (hf : X.fn x = true ∨ X.env.scope.names.lookup x = some .local := by first | exact .inl rfl | exact .inr rfl | assumption) :
    PS X (.Assign [.Name x pos'] e pos) (tAsg te (gName i)) := by
  intro pins s σ H D I h
  refine wpAny_Assign_Name (thn (he pins s σ H _ I h) fun v s1 ⟨y, H1, I1, r1, q1⟩ => ?_) hs
  exact store_ok I1 hN hi hx r1 (fun s2 I2 => ⟨_, H1, I2, q1⟩) hf
end
section
variable {X : Cx} {pos : Pos}
end
structure It where
  go : Nat → Hp → Prop
  yld : Nat → Hp → V → Hp → Prop
  stop : Nat → Hp → Prop
def FpOk (X : Cx) (pins : List (Addr × Obj)) (H : Hp) (b : Addr) : Prop :=
  H b = none ∧ b ≠ X.env.locals ∧ b ∉ X.fs ∧ (b ∈ X.ex ∨ X.s₀.heap.objs.size ≤ b) ∧ (∀ x c, X.env.cells.lookup x = some c → c ≠ b) ∧ ∀ p ∈ X.pn ++ pins, p.1 ≠ b
theorem Inv.fpOk {X : Cx} {pins : List (Addr × Obj)} {σ : St} {H H' : Hp} {s : Shared} {b : Addr} (I : Inv X pins σ H s) (hb : s.heap.objs.size ≤ b) (hn : H' b = none) : FpOk X pins H' b := by
  refine ⟨hn, Nat.ne_of_gt (Nat.lt_of_lt_of_le I.lt hb), I.nofs hb, .inr (Nat.le_trans I.sz hb), fun x c e z => ?_, fun p hp z => ?_⟩
  · obtain ⟨v, q⟩ := I.cell x c e
    exact absurd (Nat.lt_of_lt_of_le q.lt (by rw [z]; exact hb)) (Nat.lt_irrefl _)
  · exact absurd (Nat.lt_of_lt_of_le (Heap.lt_size (I.pin p hp).1) (by rw [z]; exact hb)) (Nat.lt_irrefl _)
structure Turn (P : Program) (w : World) (K : PySem.W.Frag) (tg : Expr) (J : It) (fp : List Addr) (it : Addr) (tn : Nat → Heap → Prop) : Prop where
  mem : it ∈ fp
  obj : ∀ i h, tn i h → ∀ b ∈ fp, ∃ o, h.get? b = some o ∧ ∀ v, o.data ≠ .cell v
  keep : ∀ i h h', tn i h → (∀ b ∈ fp, ∀ o, h.get? b = some o → h'.get? b = some o) → tn i h'
  item : ∀ (X : Cx), X.prog = P → X.w = w → X.K = K → X.calm = true → ∀ (i : Nat) (pins : List (Addr × Obj)) (s : Shared) (σ : St) (H : Hp) (E : Value → Shared → Prop), Inv X pins σ H s → (∀ b ∈ fp, FpOk X pins H b) → tn i s.heap → J.go i H →
    wpAny (model P w) X.A (pyNext (.ref it)) (fun r s1 => ∃ u, r = some u ∧
      wpAny (model P w) X.A (letOwnedTupleGo tg (.ref it) u) (fun _ s2 => ∃ x H', Inv X pins σ H' s2 ∧ RelV x u ∧ J.yld i H x H' ∧ tn (i + 1) s2.heap ∧ ∀ b ∈ fp, H' b = none) E s1) E s
  done : ∀ (X : Cx), X.prog = P → X.w = w → X.K = K → X.calm = true → ∀ (i : Nat) (pins : List (Addr × Obj)) (s : Shared) (σ : St) (H : Hp) (E : Value → Shared → Prop), Inv X pins σ H s → (∀ b ∈ fp, FpOk X pins H b) → tn i s.heap → J.stop i H →
    wpAny (model P w) X.A (pyNext (.ref it)) (fun r s1 => r = none ∧ Inv X pins σ H s1) E s
  self : ∀ (A : Around) (i : Nat) (s : Shared) (Q : Value → Shared → Prop) (E : Value → Shared → Prop), tn i s.heap → Q (.ref it) s → wpAny (model P w) A (pyIter (.ref it)) Q E s
abbrev TI := St → Hp → (It → Hp → Prop) → Prop
def PIE (X : Cx) (pins : List (Addr × Obj)) (σ : St) (tg : Expr) (R : It → Hp → Prop) (itv : Value) (s2 : Shared) : Prop :=
  ∃ (it : Addr) (fp : List Addr) (tn : Nat → Heap → Prop) (J : It) (H' : Hp), itv = .ref it ∧ Inv X pins σ H' s2 ∧ Turn X.prog X.w X.K tg J fp it tn ∧ tn 0 s2.heap ∧ (∀ b ∈ fp, FpOk X pins H' b) ∧ R J H'
def PI (X : Cx) (tg iter : Expr) (wi : TI) : Prop :=
  ∀ (pins : List (Addr × Obj)) (s : Shared) (σ : St) (H : Hp) (R : It → Hp → Prop), Inv X pins σ H s → wi σ H R →
    wpAny (model X.prog X.w) X.A (eval iter X.env) (fun v s1 => wpAny (model X.prog X.w) X.A (pyIter v) (PIE X pins σ tg R) X.xe s1) X.xe s
theorem go_of {M : Model} {A : Around} {E : Value → Shared → Prop} {s : Shared} {tg : Expr} {it : Addr} {u : Value} {o : Obj} {n : String} {vs : Array Value} {Q : Unit → Shared → Prop} (ho : s.heap.get? it = some o) (hc : o.cls = .type n) (hd : o.data = .fields vs)
    (hn : ["enumerate", "zip", "dict_itemiterator", "dict_reverseitemiterator", "odict_iterator", "itertools.zip_longest", "itertools.pairwise"].contains n = false) (hQ : Q () s) : wpAny M A (letOwnedTupleGo tg (.ref it) u) Q E s := by
  unfold letOwnedTupleGo
  cases tg <;> first
    | exact wpAny_pure hQ
    | (cases u <;> first
        | exact wpAny_pure hQ
        | (refine wpAny_bind (wpAny_load ho ?_)
           rw [hc, hd]
           show wpAny M A (if (["enumerate", "zip", "dict_itemiterator", "dict_reverseitemiterator", "odict_iterator", "itertools.zip_longest", "itertools.pairwise"].contains n && vs[0]? == some (rawInt _)) = true then _ else _) Q E s
           rw [if_neg (by intro h; rw [hn, Bool.false_and] at h; cases h)]
           exact wpAny_pure hQ))
def Itl (K : PySem.W.Frag) (a : Addr) : It :=
  ⟨fun i H => ∃ xs x, SqL K H a xs ∧ xs[i]? = some x, fun i H x H' => H' = H ∧ ∀ xs, SqL K H a xs → xs[i]? = some x, fun i H => ∃ xs, SqL K H a xs ∧ xs.length ≤ i⟩
def Itr (lo : Int) (n : Nat) : It := ⟨fun i _ => i < n, fun i H x H' => H' = H ∧ x = .int (lo + i), fun i _ => n ≤ i⟩
theorem turn_list {P : Program} {w : World} {K : PySem.W.Frag} {tg : Expr} (a it : Addr) : Turn P w K tg (Itl K a) [it] it (fun i h => h.IsListIter it a i) where
  mem := by simp
  obj := fun i h st b hb => by
    have e : b = it := by simpa using hb
    subst e
    obtain ⟨o, e, c, d⟩ := st
    exact ⟨o, e, fun v z => by rw [d] at z; cases z⟩
  keep := fun i h h' st k => st.at fun o e => k it (by simp) o e
  item := by
    intro X hP hw hK hc i pins s σ H E I hf st hg
    subst hP hw hK
    obtain ⟨xs, x, hq, hx⟩ := hg
    obtain ⟨its, rv, p, hz⟩ := I.list hq
    obtain ⟨u, hu, ru⟩ := rv.get hx
    obtain ⟨f0, f1, f2, f3, f4, f5⟩ := hf it (by simp)
    refine wpAny_pyNext_list_item st p.isList (x := u) (by simpa using hu) fun h' st' sb => ?_
    have I1 : Inv X pins σ H { s with heap := h' } := I.turned (t' := s.toks) (fun b o hb e => (sb.2 b hb).trans e) f0 f1 f3 f4 f5
    obtain ⟨o, e, c, d⟩ := id st'
    exact ⟨u, rfl, go_of (s := { s with heap := h' }) e c d (by decide) ⟨x, H, I1, ru, ⟨rfl, fun ys hy => by rw [I.list_inj hy hq]; exact hx⟩, st', fun b hb => (hf b hb).1⟩⟩
  done := by
    intro X hP hw hK hc i pins s σ H E I hf st hg
    subst hP hw hK
    obtain ⟨xs, hq, hx⟩ := hg
    obtain ⟨its, rv, p, hz⟩ := I.list hq
    obtain ⟨f0, f1, f2, f3, f4, f5⟩ := hf it (by simp)
    have hl := rv.length
    exact wpAny_pyNext_list_end (I.ok.hd hc) st p.isList (by simp; omega) fun h' eb => ⟨rfl, I.turned (t' := s.toks) (fun b o hb e => eb b o hb e) f0 f1 f3 f4 f5⟩
  self := fun _ _ _ _ _ st h => wpAny_pyIter_listiter st h
theorem turn_range {P : Program} {w : World} {K : PySem.W.Frag} {tg : Expr} (it : Addr) (lo : Int) (n : Nat) : Turn P w K tg (Itr lo n) [it] it (fun i h => IsRangeIter h it (lo + (i : Nat) * 1) ((n : Int) - (i : Nat)) 1) where
  mem := by simp
  obj := fun i h st b hb => by
    have e : b = it := by simpa using hb
    subst e
    exact ⟨_, st, fun v z => by
      have z' : Data.fields _ = Data.cell v := z
      cases z'⟩
  keep := fun i h h' st k => k it (by simp) _ st
  item := by
    intro X hP hw hK hc i pins s σ H E I hf st hg
    subst hP hw hK
    obtain ⟨f0, f1, f2, f3, f4, f5⟩ := hf it (by simp)
    have W := Walks.range (prog := X.prog) (w := X.w) (I.ok.hd hc) it lo 1 n
    refine W.item i s _ _ hg st fun v h' tk hv st' kk => ?_
    obtain ⟨t, rfl⟩ := hv
    have I1 : Inv X pins σ H { s with heap := h', toks := tk } := I.turned (fun b o hb e => kk b o (by simpa using hb) e) f0 f1 f3 f4 f5
    refine ⟨_, rfl, go_of (s := { s with heap := h', toks := tk }) (n := "range_iterator") st' rfl rfl (by decide) ⟨.int (lo + i), H, I1, ⟨t, ?_⟩, ⟨rfl, rfl⟩, st', fun b hb => (hf b hb).1⟩⟩
    rw [Int.mul_one]
  done := by
    intro X hP hw hK hc i pins s σ H E I hf st hg
    subst hP hw hK
    obtain ⟨f0, f1, f2, f3, f4, f5⟩ := hf it (by simp)
    exact wpAny_pyNext_range_end (I.ok.hd hc) st (by have : n ≤ i := hg; omega) fun h' eb => ⟨rfl, I.turned (t' := s.toks) (fun b o hb e => eb b o hb e) f0 f1 f3 f4 f5⟩
  self := fun _ _ _ _ _ st h => wpAny_pyIter_rangeiter st h
end L2
namespace L2
open PySem PySem.Spec PyProof.Rows
section
variable {X : Cx} {tg : Expr}
def iList (K : PySem.W.Frag) (tl : TE) : TI := fun σ H R => tl σ H fun x H1 => ∃ a, x = .ref a ∧ (∃ xs, SqL K H1 a xs) ∧ R (Itl K a) H1
theorem pi_list {l : Expr} {tl : TE} (hl : PE X l tl) : PI X tg l (iList X.K tl) := by
  intro pins s σ H R I h
  refine thn (hl pins s σ H _ I h) fun v s1 ⟨x, H1, I1, r1, q1⟩ => ?_
  obtain ⟨a, e, ⟨xs, hq⟩, q⟩ := q1
  subst e
  cases r1
  obtain ⟨its, rv, p, hz⟩ := I1.list hq
  refine wpAny_pyIter_list p.isList ?_
  refine ⟨s1.heap.objs.size, [s1.heap.objs.size], _, _, H1, rfl, I1.kept (t' := s1.toks) fun b o e => Heap.get?_push_of_some _ e, turn_list a _, ⟨_, Heap.get?_push_size _ rfl, rfl, rfl⟩, fun b hb => ?_, q⟩
  have e : b = s1.heap.objs.size := by simpa using hb
  subst e
  exact I1.fpOk (Nat.le_refl _) (I1.hok.fresh (Nat.le_refl _))
theorem range_it {pins : List (Addr × Obj)} {σ : St} {H : Hp} {s : Shared} {R : It → Hp → Prop} {E : Value → Shared → Prop} {lo hi : Int} {t u v : Tok} {tk : Nat} (I : Inv X pins σ H s) (h1 : -(2 ^ 62) ≤ lo) (h2 : lo < 2 ^ 62) (h3 : -(2 ^ 62) ≤ hi) (h4 : hi < 2 ^ 62)
    (q : R (Itr lo (hi - lo).toNat) H) : wpAny (model X.prog X.w) X.A (pyIter (.ref s.heap.objs.size)) (PIE X pins σ tg R) E { s with heap := s.heap.push { cls := .type "range", data := .fields #[.int lo t, .int hi u, .int 1 v] }, toks := tk } := by
  refine wpAny_pyIter_range (IsRange.new ..) (small_one h1 h2 h3 h4) ?_
  have I1 : Inv X pins σ H { s with heap := s.heap.push { cls := .type "range", data := .fields #[.int lo t, .int hi u, .int 1 v] }, toks := tk } := I.kept fun b o e => Heap.get?_push_of_some _ e
  refine ⟨(s.heap.push { cls := .type "range", data := .fields #[.int lo t, .int hi u, .int 1 v] }).objs.size, [(s.heap.push { cls := .type "range", data := .fields #[.int lo t, .int hi u, .int 1 v] }).objs.size], _, _, H, rfl,
    I1.kept (t' := tk) fun b o e => Heap.get?_push_of_some _ e, turn_range _ lo (hi - lo).toNat, ?_, fun b hb => ?_, q⟩
  · have e1 : lo + ((0 : Nat) : Int) * 1 = lo := by simp
    have e2 : (((hi - lo).toNat : Nat) : Int) - ((0 : Nat) : Int) = Builtin.Range.rangeSize lo hi 1 := by rw [rangeSize_one]; split <;> omega
    show IsRangeIter _ _ (lo + ((0 : Nat) : Int) * 1) ((((hi - lo).toNat : Nat) : Int) - ((0 : Nat) : Int)) 1
    rw [e1, e2]
    exact Heap.get?_push_size _ rfl
  · have e : b = (s.heap.push { cls := .type "range", data := .fields #[.int lo t, .int hi u, .int 1 v] }).objs.size := by simpa using hb
    subst e
    exact I1.fpOk (Nat.le_refl _) (I1.hok.fresh (Nat.le_refl _))
def iRng1 (ta : TA) : TI := fun σ H R => ta σ H fun vs H1 => ∃ j : Int, vs = [.int j] ∧ -(2 ^ 62) ≤ j ∧ j < 2 ^ 62 ∧ R (Itr 0 j.toNat) H1
theorem pi_range1 {a : Expr} {ta : TA} {p pos : Pos} (hg : Gl X "range") (hm : X.mg "range" = none) (ha : PA X [a] ta) (hs : starEach [a] X.env = [(false, eval a X.env)] := by rfl) : PI X tg (.Call (.Name "range" p) [a] [] pos) (iRng1 ta) := by
  intro pins s σ H R I h
  refine Call_ (ld_blt I hg hm boot_range (PyProof.Rows.callWith_type1 (thn (ha pos pins s σ H _ I h) fun us s1 ⟨vs, H1, I1, r1, q1⟩ => ?_) hs rfl))
  obtain ⟨j, e, q1, q2, q⟩ := q1
  subst e
  cases r1 with
  | cons r rr =>
    cases rr
    obtain ⟨t, rfl⟩ := r
    exact call_range_1 (range_it I1 (by omega) (by omega) q1 q2 (by simpa using q))
def tFor (wi : TI) (g : TG) (tb : TS) : TS := fun D σ H => wi σ H fun J H1 => ∃ W : Nat → Nat → St → Hp → Prop, (∃ m, W 0 m σ H1) ∧ ∀ i m σ H, W i m σ H →
  (J.stop i H ∧ D.nx σ H) ∨ (J.go i H ∧ ∃ N : St → Hp → Prop, (∀ σ' H', N σ' H' → ∃ m', m' < m ∧ W (i + 1) m' σ' H') ∧ ∀ x H', J.yld i H x H' → g x σ H' fun σ2 H2 => tb { D with nx := N, ct := N, bk := D.nx } σ2 H2)
def pinsAt (fp : List Addr) (h : Heap) : List (Addr × Obj) := fp.filterMap fun b => (h.get? b).map fun o => (b, o)
theorem mem_pinsAt {fp : List Addr} {h : Heap} {b : Addr} {o : Obj} (hb : b ∈ fp) (e : h.get? b = some o) : (b, o) ∈ pinsAt fp h := List.mem_filterMap.mpr ⟨b, hb, by rw [e]; rfl⟩
theorem of_pinsAt {fp : List Addr} {h : Heap} {p : Addr × Obj} (hp : p ∈ pinsAt fp h) : p.1 ∈ fp ∧ h.get? p.1 = some p.2 := by
  obtain ⟨b, hb, e⟩ := List.mem_filterMap.mp hp
  cases q : h.get? b with
  | none => rw [q] at e; cases e
  | some o =>
    rw [q] at e
    have e' : (b, o) = p := Option.some.inj e
    subst e'
    exact ⟨hb, q⟩
theorem Inv.pinned {pins : List (Addr × Obj)} {σ : St} {H : Hp} {s : Shared} {fp : List Addr} (I : Inv X pins σ H s) (hf : ∀ b ∈ fp, FpOk X pins H b) (ho : ∀ b ∈ fp, ∃ o, s.heap.get? b = some o ∧ ∀ v, o.data ≠ .cell v) : Inv X (pins ++ pinsAt fp s.heap) σ H s :=
  I.pins_of fun p hp => (List.mem_append.mp hp).elim (fun z => I.pin p (List.mem_append_right _ z)) fun z => by
    obtain ⟨hb, e⟩ := of_pinsAt z
    obtain ⟨f0, f1, f2, _⟩ := hf p.1 hb
    obtain ⟨o, e', d⟩ := ho p.1 hb
    rw [e] at e'; cases e'
    exact ⟨e, f0, f1, f2, d⟩
theorem Inv.unpinned {pins pl : List (Addr × Obj)} {σ : St} {H : Hp} {s : Shared} (I : Inv X (pins ++ pl) σ H s) : Inv X pins σ H s := I.pins_of fun p hp => I.pin p (List.mem_append_right _ (List.mem_append_left _ hp))
theorem ps_for {iter : Expr} {body : List Stmt} {wi : TI} {g : TG} {tb : TS} {pos : Pos} (hp : PassesOwn (model X.prog X.w) X.A X.env X.xe) (hc : X.calm = true) (hi : PI X tg iter wi) (hg : PG X tg g) (hb : PSs X body tb)
    (hs : ∀ x, foldedSetIterable iter X.env x = pure x := by intro _; rfl) : PS X (.For tg iter body [] pos) (tFor wi g tb) := by
  intro pins s σ H D I h
  refine wpAny_For (thn (hi pins s σ H _ I h) fun v s1 h1 => thn h1 fun itv s2 h2 => ?_) hs
  obtain ⟨it, fp, tn, J, H2, e, I2, T, st2, f2, W, ⟨m0, w0⟩, turn⟩ := h2
  subst e
  have stat : ∀ {H' : Hp}, (∀ b ∈ fp, H' b = none) → ∀ b ∈ fp, FpOk X pins H' b := fun hn b hb => ⟨hn b hb, (f2 b hb).2⟩
  refine codeAny_forLoop_any (fun n s' => ∃ i σ' H', Inv X pins σ' H' s' ∧ tn i s'.heap ∧ (∀ b ∈ fp, H' b = none) ∧ W i n σ' H') ?_ m0 ⟨0, σ, H2, I2, st2, fun b hb => (f2 b hb).1, w0⟩
  rintro n s3 ⟨i, σ3, H3, I3, st3, fr3, w3⟩
  rcases turn i n σ3 H3 w3 with ⟨stop, qn⟩ | ⟨go, N, hN, step⟩
  · refine wpAny_passesOwn hp (thn (T.done X rfl rfl rfl hc i pins s3 σ3 H3 X.xe I3 (stat fr3) st3 stop) fun r s4 ⟨hr, I4⟩ => ?_)
    subst hr
    exact wpAny_execs_nil ⟨σ3, H3, I4, qn⟩
  · refine wpAny_passesOwn hp (thn (T.item X rfl rfl rfl hc i pins s3 σ3 H3 X.xe I3 (stat fr3) st3 go) fun r s4 ⟨u, hr, h4⟩ => ?_)
    subst hr
    refine wpAny_passesOwn hp (thn h4 fun _ s5 ⟨x, H5, I5, r5, y5, st5, fr5⟩ => ?_)
    have I5' := I5.pinned (stat fr5) (T.obj _ _ st5)
    refine wpAny_passesOwn hp (thn (hg _ s5 σ3 H5 x u _ I5' r5 (step x H5 y5)) fun _ s6 ⟨σ6, H6, I6, q6⟩ => ?_)
    refine wpAny_passesOwn hp (thn (hb _ s6 σ6 H6 _ I6 q6) fun f s7 q7 => ?_)
    have again : ∀ {σ7 : St} {H7 : Hp}, Inv X (pins ++ pinsAt fp s5.heap) σ7 H7 s7 → N σ7 H7 → ∃ m, m < n ∧ ∃ i σ' H', Inv X pins σ' H' s7 ∧ tn i s7.heap ∧ (∀ b ∈ fp, H' b = none) ∧ W i m σ' H' := fun {σ7 H7} I7 n7 => by
      obtain ⟨m', hm, w7⟩ := hN σ7 H7 n7
      refine ⟨m', hm, i + 1, σ7, H7, I7.unpinned, T.keep _ _ _ st5 fun b hb o e => (I7.pin (b, o) (List.mem_append_right _ (List.mem_append_right _ (mem_pinsAt hb e)))).1, fun b hb => ?_, w7⟩
      obtain ⟨o, e, d⟩ := T.obj _ _ st5 b hb
      exact (I7.pin (b, o) (List.mem_append_right _ (List.mem_append_right _ (mem_pinsAt hb e)))).2.1
    cases f with
    | next => obtain ⟨σ7, H7, I7, n7⟩ := q7; exact again I7 n7
    | cont => obtain ⟨σ7, H7, I7, n7⟩ := q7; exact again I7 n7
    | brk => obtain ⟨σ7, H7, I7, q7⟩ := q7; exact ⟨σ7, H7, I7.unpinned, q7⟩
    | ret v => obtain ⟨x7, σ7, H7, I7, r7, q7⟩ := q7; exact ⟨x7, σ7, H7, I7.unpinned, r7, q7⟩
end
theorem for_list {K : PySem.W.Frag} {a : Addr} {xs : List V} {g : TG} {tb : TS} {D : Ends} {σ : St} {H : Hp} (Pv : Nat → St → Hp → Prop) (h0 : Pv 0 σ H) (hl : ∀ i σ H, i ≤ xs.length → Pv i σ H → SqL K H a xs)
    (hs : ∀ i x σ H, xs[i]? = some x → Pv i σ H → g x σ H fun σ2 H2 => tb { D with nx := Pv (i + 1), ct := Pv (i + 1), bk := D.nx } σ2 H2) (hd : ∀ σ H, Pv xs.length σ H → D.nx σ H) :
    ∃ W : Nat → Nat → St → Hp → Prop, (∃ m, W 0 m σ H) ∧ ∀ i m σ H, W i m σ H →
      ((Itl K a).stop i H ∧ D.nx σ H) ∨ ((Itl K a).go i H ∧ ∃ N : St → Hp → Prop, (∀ σ' H', N σ' H' → ∃ m', m' < m ∧ W (i + 1) m' σ' H') ∧ ∀ x H', (Itl K a).yld i H x H' → g x σ H' fun σ2 H2 => tb { D with nx := N, ct := N, bk := D.nx } σ2 H2) := by
  refine ⟨fun i m σ H => m = xs.length - i ∧ i ≤ xs.length ∧ Pv i σ H, ⟨xs.length, by simp, Nat.zero_le _, h0⟩, ?_⟩
  rintro i m σ H ⟨rfl, hi, p⟩
  have q := hl i σ H hi p
  by_cases hlt : i < xs.length
  · refine .inr ⟨⟨xs, xs[i], q, by simp [hlt]⟩, Pv (i + 1), fun σ' H' p' => ⟨xs.length - (i + 1), by omega, rfl, hlt, p'⟩, fun x H' y => ?_⟩
    obtain ⟨e, y⟩ := y
    subst e
    exact hs i x σ _ (y xs q) p
  · have e : i = xs.length := by omega
    subst e
    exact .inl ⟨⟨xs, q, Nat.le_refl _⟩, hd σ H p⟩
theorem for_range {lo : Int} {n : Nat} {g : TG} {tb : TS} {D : Ends} {σ : St} {H : Hp} (Pv : Nat → St → Hp → Prop) (h0 : Pv 0 σ H)
    (hs : ∀ i σ H, i < n → Pv i σ H → g (.int (lo + i)) σ H fun σ2 H2 => tb { D with nx := Pv (i + 1), ct := Pv (i + 1), bk := D.nx } σ2 H2) (hd : ∀ σ H, Pv n σ H → D.nx σ H) :
    ∃ W : Nat → Nat → St → Hp → Prop, (∃ m, W 0 m σ H) ∧ ∀ i m σ H, W i m σ H →
      ((Itr lo n).stop i H ∧ D.nx σ H) ∨ ((Itr lo n).go i H ∧ ∃ N : St → Hp → Prop, (∀ σ' H', N σ' H' → ∃ m', m' < m ∧ W (i + 1) m' σ' H') ∧ ∀ x H', (Itr lo n).yld i H x H' → g x σ H' fun σ2 H2 => tb { D with nx := N, ct := N, bk := D.nx } σ2 H2) := by
  refine ⟨fun i m σ H => m = n - i ∧ i ≤ n ∧ Pv i σ H, ⟨n, by simp, Nat.zero_le _, h0⟩, ?_⟩
  rintro i m σ H ⟨rfl, hi, p⟩
  by_cases hlt : i < n
  · refine .inr ⟨hlt, Pv (i + 1), fun σ' H' p' => ⟨n - (i + 1), by omega, rfl, hlt, p'⟩, fun x H' y => ?_⟩
    obtain ⟨e, y⟩ := y
    subst e y
    exact hs i σ _ hlt p
  · have e : i = n := by omega
    subst e
    exact .inl ⟨Nat.le_refl _, hd σ H p⟩
end L2
namespace L2
open PySem PySem.Spec PyProof.Rows
abbrev R2 := V → V → Hp → VK → Prop
def OpR (X : Cx) (f : Value → Value → Sem Value) (r : R2) : Prop :=
  ∀ (pins : List (Addr × Obj)) (s : Shared) (σ : St) (H : Hp) (x y : V) (v u : Value) (Q : VK), Inv X pins σ H s → RelV x v → RelV y u → r x y H Q →
    wpAny (model X.prog X.w) X.A (f v u) (EP X pins σ Q) X.xe s
def CallR (X : Cx) (f : Value) (r : List V → Hp → VK → Prop) : Prop :=
  ∀ (pins : List (Addr × Obj)) (s : Shared) (σ : St) (H : Hp) (xs : List V) (us : List Value) (Q : VK), Inv X pins σ H s → Vals xs us → r xs H Q →
    wpAny (model X.prog X.w) X.A (call f us) (EP X pins σ Q) X.xe s
def TruR (X : Cx) (r : V → Hp → (Bool → Hp → Prop) → Prop) : Prop :=
  ∀ (pins : List (Addr × Obj)) (s : Shared) (σ : St) (H : Hp) (x : V) (v : Value) (Q : Bool → Hp → Prop), Inv X pins σ H s → RelV x v → r x H Q →
    wpAny (model X.prog X.w) X.A (truthy v) (TP X pins σ Q) X.xe s
def tOp (r : R2) (ta tb : TE) : TE := fun σ H Q => ta σ H fun x H1 => tb σ H1 fun y H2 => r x y H2 Q
def rI (C : Int → Int → Prop) (g : Int → Int → V) : R2 := fun x y H Q => ∃ i j, x = .int i ∧ y = .int j ∧ C i j ∧ Q (g i j) H
def rI0 (g : Int → Int → V) : R2 := fun x y H Q => ∃ i j, x = .int i ∧ y = .int j ∧ Q (g i j) H
section
variable {X : Cx} {a b c : Expr} {ta tb tc : TE} {pos : Pos}
theorem binT (ha : PE X a ta) (hb : PE X b tb) {pins : List (Addr × Obj)} {s : Shared} {σ : St} {H : Hp} {R : V → V → Hp → Prop} (I : Inv X pins σ H s)
    (h : ta σ H fun x H1 => tb σ H1 fun y H2 => R x y H2) {Q : Value → Shared → Prop} {f : Value → Value → Sem Value}
    (hf : ∀ v u s2 x y H2, Inv X pins σ H2 s2 → RelV x v → RelV y u → R x y H2 → wpAny (model X.prog X.w) X.A (f v u) Q X.xe s2) :
    wpAny (model X.prog X.w) X.A (eval a X.env) (fun v s₁ => wpAny (model X.prog X.w) X.A (eval b X.env) (fun u s₂ => wpAny (model X.prog X.w) X.A (f v u) Q X.xe s₂) X.xe s₁) X.xe s := by
  refine thn (ha pins s σ H _ I h) fun v s1 ⟨x, H1, I1, r1, q1⟩ => ?_
  refine thn (hb pins s1 σ H1 _ I1 q1) fun u s2 ⟨y, H2, I2, r2, q2⟩ => ?_
  exact hf v u s2 x y H2 I2 r1 r2 q2
theorem pe_op {op : Operator} {r : R2} (ho : OpR X (binaryOp op) r) (ha : PE X a ta) (hb : PE X b tb) : PE X (.BinOp a op b pos) (tOp r ta tb) := by
  intro pins s σ H Q I h
  exact wpAny_BinOp (binT ha hb I h fun v u s2 x y H2 I2 rx ry q => ho pins s2 σ H2 x y v u Q I2 rx ry q)
theorem opI {f : Value → Value → Sem Value} {C : Int → Int → Prop} {g : Int → Int → Int}
    (rule : ∀ (i j : Int) (t u : Tok) (s : Shared) (Q : Value → Shared → Prop) (E : Value → Shared → Prop), C i j → Q (.int (g i j) s.toks) { s with toks := s.toks + 1 } → wpAny (model X.prog X.w) X.A (f (.int i t) (.int j u)) Q E s) :
    OpR X f (rI C fun i j => .int (g i j)) := by
  intro pins s σ H x y v u Q I rx ry h
  obtain ⟨i, j, rfl, rfl, hc, q⟩ := h
  obtain ⟨t, rfl⟩ := rx
  obtain ⟨t', rfl⟩ := ry
  exact rule i j t t' s _ _ hc ⟨.int (g i j), H, I.tok _, ⟨_, rfl⟩, q⟩
theorem opI0 {f : Value → Value → Sem Value} {g : Int → Int → Int}
    (rule : ∀ (i j : Int) (t u : Tok) (s : Shared) (Q : Value → Shared → Prop) (E : Value → Shared → Prop), Q (.int (g i j) s.toks) { s with toks := s.toks + 1 } → wpAny (model X.prog X.w) X.A (f (.int i t) (.int j u)) Q E s) :
    OpR X f (rI0 fun i j => .int (g i j)) := by
  intro pins s σ H x y v u Q I rx ry h
  obtain ⟨i, j, rfl, rfl, q⟩ := h
  obtain ⟨t, rfl⟩ := rx
  obtain ⟨t', rfl⟩ := ry
  exact rule i j t t' s _ _ ⟨.int (g i j), H, I.tok _, ⟨_, rfl⟩, q⟩
theorem opB0 {f : Value → Value → Sem Value} {g : Int → Int → Bool}
    (rule : ∀ (i j : Int) (t u : Tok) (s : Shared) (Q : Value → Shared → Prop) (E : Value → Shared → Prop), Q (.bool (g i j)) s → wpAny (model X.prog X.w) X.A (f (.int i t) (.int j u)) Q E s) :
    OpR X f (rI0 fun i j => .bl (g i j)) := by
  intro pins s σ H x y v u Q I rx ry h
  obtain ⟨i, j, rfl, rfl, q⟩ := h
  obtain ⟨t, rfl⟩ := rx
  obtain ⟨t', rfl⟩ := ry
  exact rule i j t t' s _ _ ⟨.bl (g i j), H, I, rfl, q⟩
def CDiv (i j : Int) : Prop := 0 < j ∧ j < 1073741824
def CPow (i j : Int) : Prop := 0 ≤ j ∧ j ≤ 1000000 ∧ i.natAbs < 2 ^ 64
def CMul (i j : Int) : Prop := (-(2 ^ 64) < i ∧ i < 2 ^ 64) ∨ (-(2 ^ 64) < j ∧ j < 2 ^ 64)
theorem CMul.ok {i j : Int} (h : CMul i j) : IntMulOk i j := by
  rcases h with ⟨h1, h2⟩ | ⟨h1, h2⟩
  · exact .of_left (intBits_le_64 h1 h2)
  · exact .of_right (intBits_le_64 h1 h2)
theorem two_pow_nn (k : Nat) : (0 : Int) ≤ 2 ^ k := by
  rw [two_pow_cast]
  exact Int.natCast_nonneg _
theorem op_add : OpR X (binaryOp .Add) (rI0 fun i j => .int (i + j)) := opI0 fun _ _ _ _ _ _ _ q => add_int q
theorem op_sub : OpR X (binaryOp .Sub) (rI0 fun i j => .int (i - j)) := opI0 fun _ _ _ _ _ _ _ q => sub_int q
theorem op_mul : OpR X (binaryOp .Mult) (rI CMul fun i j => .int (i * j)) := opI fun _ _ _ _ _ _ _ hc q => mul_int q hc.ok
theorem op_fdiv : OpR X (binaryOp .FloorDiv) (rI CDiv fun i j => .int (i / j)) := opI fun i j _ _ _ _ _ hc q => by
  have h1 : (0 : Int) < j := hc.1
  have h2 : j < 1073741824 := hc.2
  exact floordiv_int (by omega) (by rw [Int.fdiv_eq_ediv_of_nonneg i (by omega)]; exact q) (.inl (PyProof.noPylong_small (by omega)))
theorem op_mod : OpR X (binaryOp .Mod) (rI (fun _ j => 0 < j) fun i j => .int (i % j)) := opI fun i j _ _ _ _ _ hc q => by
  have h1 : (0 : Int) < j := hc
  exact mod_int' (by omega) (by rw [Int.fmod_eq_emod_of_nonneg i (by omega)]; exact q)
theorem op_pow : OpR X (binaryOp .Pow) (rI CPow fun i j => .int (i ^ j.toNat)) := opI fun _ _ _ _ _ _ _ hc q => pow_int_small hc.1 hc.2.1 hc.2.2 q
theorem op_shl : OpR X (binaryOp .LShift) (rI CPow fun i j => .int (i * 2 ^ j.toNat)) := opI fun _ _ _ _ _ _ _ hc q => lshift_int_small hc.1 hc.2.1 hc.2.2 q
theorem op_shr : OpR X (binaryOp .RShift) (rI (fun _ j => 0 ≤ j) fun i j => .int (i / 2 ^ j.toNat)) := opI fun i j _ _ _ _ _ hc q =>
  rshift_int hc (by rw [Int.fdiv_eq_ediv_of_nonneg i (two_pow_nn _)]; exact q)
theorem op_and : OpR X (binaryOp .BitAnd) (rI0 fun i j => .int (Builtin.bitAnd i j)) := opI0 fun _ _ _ _ _ _ _ q => and_int q
theorem op_xor : OpR X (binaryOp .BitXor) (rI0 fun i j => .int (Builtin.bitXor i j)) := opI0 fun _ _ _ _ _ _ _ q => xor_int q
end
def scal : V → V → Bool
  | .non, .non => true | .non, .int _ => true | .int _, .non => true | .non, .bl _ => true | .bl _, .non => true | .non, .str _ => true | .str _, .non => true
  | .int _, .int _ => true | .bl _, .bl _ => true | .str _, .str _ => true | .byt _, .byt _ => true
  | .int _, .str _ => true | .str _, .int _ => true | .bl _, .str _ => true | .str _, .bl _ => true
  | _, _ => false
def rEq : R2 := fun x y H Q => scal x y = true ∧ Q (.bl (decide (x = y))) H
def rNe : R2 := fun x y H Q => scal x y = true ∧ Q (.bl (!decide (x = y))) H
theorem dec_int {i j : Int} : decide (V.int i = V.int j) = (i == j) := by
  rw [Bool.eq_iff_iff]
  simp
theorem dec_bl {i j : Bool} : decide (V.bl i = V.bl j) = (i == j) := by
  rw [Bool.eq_iff_iff]
  simp
theorem dec_str {i j : Str} : decide (V.str i = V.str j) = (i == j) := by
  rw [Bool.eq_iff_iff]
  simp
theorem dec_byt {i j : Array UInt8} : decide (V.byt i = V.byt j) = (i.toList == j.toList) := by
  rw [Bool.eq_iff_iff]
  cases i
  cases j
  simp
section
variable {X : Cx} {a b c : Expr} {ta tb tc : TE} {pos : Pos}
theorem fin_bl {pins : List (Addr × Obj)} {σ : St} {H : Hp} {s : Shared} {Q : VK} {k k' : Bool} (I : Inv X pins σ H s) (q : Q (.bl k) H) (e : k = k') : EP X pins σ Q (.bool k') s := by
  subst e
  exact ⟨.bl k, H, I, rfl, q⟩
theorem op_eq : OpR X (compareOp .Eq) rEq := by
  intro pins s σ H x y v u Q I rx ry h
  obtain ⟨hs, q⟩ := h
  cases x with
  | non =>
    cases rx
    cases y with
    | non => cases ry; exact PySem.EqNone.eq_none_none (fin_bl I q (by simp))
    | bl j => cases ry; exact PySem.EqNone.eq_none_bool (fin_bl I q (by simp))
    | int j => obtain ⟨t', rfl⟩ := ry; exact PySem.EqNone.eq_none_int (fin_bl I q (by simp))
    | str j => obtain ⟨t', rfl⟩ := ry; exact PySem.EqNone.eq_none_str (fin_bl I q (by simp))
    | _ => exact absurd (show false = true from hs) Bool.false_ne_true
  | bl i =>
    cases rx
    cases y with
    | non => cases ry; exact PySem.EqNone.eq_bool_none (fin_bl I q (by simp))
    | bl j => cases ry; exact eq_bool (fin_bl I q dec_bl)
    | str j => obtain ⟨t', rfl⟩ := ry; exact PySem.EqMixed.eq_bool_str (fin_bl I q (by simp))
    | _ => exact absurd (show false = true from hs) Bool.false_ne_true
  | int i =>
    obtain ⟨t, rfl⟩ := rx
    cases y with
    | non => cases ry; exact PySem.EqNone.eq_int_none (fin_bl I q (by simp))
    | int j => obtain ⟨t', rfl⟩ := ry; exact eq_int (fin_bl I q dec_int)
    | str j => obtain ⟨t', rfl⟩ := ry; exact PySem.EqMixed.eq_int_str (fin_bl I q (by simp))
    | _ => exact absurd (show false = true from hs) Bool.false_ne_true
  | str i =>
    obtain ⟨t, rfl⟩ := rx
    cases y with
    | non => cases ry; exact PySem.EqNone.eq_str_none (fin_bl I q (by simp))
    | bl j => cases ry; exact PySem.EqMixed.eq_str_bool (fin_bl I q (by simp))
    | int j => obtain ⟨t', rfl⟩ := ry; exact PySem.EqMixed.eq_str_int (fin_bl I q (by simp))
    | str j => obtain ⟨t', rfl⟩ := ry; exact eq_str (fin_bl I q dec_str)
    | _ => exact absurd (show false = true from hs) Bool.false_ne_true
  | byt i =>
    obtain ⟨t, rfl⟩ := rx
    cases y with
    | byt j => obtain ⟨t', rfl⟩ := ry; exact PySem.W.eq_bytes (fin_bl I q dec_byt)
    | _ => exact absurd (show false = true from hs) Bool.false_ne_true
  | _ => cases y <;> exact absurd (show false = true from hs) Bool.false_ne_true
theorem op_ne : OpR X (compareOp .NotEq) rNe := by
  intro pins s σ H x y v u Q I rx ry h
  obtain ⟨hs, q⟩ := h
  cases x with
  | non =>
    cases rx
    cases y with
    | non => cases ry; exact PySem.EqNone.ne_none_none (fin_bl I q (by simp))
    | bl j => cases ry; exact PySem.EqNone.ne_none_bool (fin_bl I q (by simp))
    | int j => obtain ⟨t', rfl⟩ := ry; exact PySem.EqNone.ne_none_int (fin_bl I q (by simp))
    | str j => obtain ⟨t', rfl⟩ := ry; exact PySem.EqNone.ne_none_str (fin_bl I q (by simp))
    | _ => exact absurd (show false = true from hs) Bool.false_ne_true
  | bl i =>
    cases rx
    cases y with
    | non => cases ry; exact PySem.EqNone.ne_bool_none (fin_bl I q (by simp))
    | bl j => cases ry; exact ne_bool (fin_bl I q (congrArg not dec_bl))
    | str j => obtain ⟨t', rfl⟩ := ry; exact PySem.EqMixed.ne_bool_str (fin_bl I q (by simp))
    | _ => exact absurd (show false = true from hs) Bool.false_ne_true
  | int i =>
    obtain ⟨t, rfl⟩ := rx
    cases y with
    | non => cases ry; exact PySem.EqNone.ne_int_none (fin_bl I q (by simp))
    | int j => obtain ⟨t', rfl⟩ := ry; exact ne_int (fin_bl I q (congrArg not dec_int))
    | str j => obtain ⟨t', rfl⟩ := ry; exact PySem.EqMixed.ne_int_str (fin_bl I q (by simp))
    | _ => exact absurd (show false = true from hs) Bool.false_ne_true
  | str i =>
    obtain ⟨t, rfl⟩ := rx
    cases y with
    | non => cases ry; exact PySem.EqNone.ne_str_none (fin_bl I q (by simp))
    | bl j => cases ry; exact PySem.EqMixed.ne_str_bool (fin_bl I q (by simp))
    | int j => obtain ⟨t', rfl⟩ := ry; exact PySem.EqMixed.ne_str_int (fin_bl I q (by simp))
    | str j => obtain ⟨t', rfl⟩ := ry; exact ne_str (fin_bl I q (congrArg not dec_str))
    | _ => exact absurd (show false = true from hs) Bool.false_ne_true
  | byt i =>
    obtain ⟨t, rfl⟩ := rx
    cases y with
    | byt j => obtain ⟨t', rfl⟩ := ry; exact PySem.W.ne_bytes (fin_bl I q (congrArg not dec_byt))
    | _ => exact absurd (show false = true from hs) Bool.false_ne_true
  | _ => cases y <;> exact absurd (show false = true from hs) Bool.false_ne_true
theorem op_lt : OpR X (compareOp .Lt) (rI0 fun i j => .bl (decide (i < j))) := opB0 fun _ _ _ _ _ _ _ q => lt_int q
theorem op_ge : OpR X (compareOp .GtE) (rI0 fun i j => .bl (decide (j ≤ i))) := opB0 fun _ _ _ _ _ _ _ q => ge_int q
theorem OpR.or {f : Value → Value → Sem Value} {r r' : R2} (h : OpR X f r) (h' : OpR X f r') : OpR X f (fun x y H Q => r x y H Q ∨ r' x y H Q) := by
  intro pins s σ H x y v u Q I rx ry q
  rcases q with q | q
  · exact h pins s σ H x y v u Q I rx ry q
  · exact h' pins s σ H x y v u Q I rx ry q
theorem nomark (b : Expr) {op : CmpOp} (h : op ≠ .In := by decide) (h2 : op ≠ .NotIn := by decide) : behindInMarks op b = false := by
  have e1 : (op == CmpOp.In) = false := by cases op <;> first | rfl | exact absurd rfl h
  have e2 : (op == CmpOp.NotIn) = false := by cases op <;> first | rfl | exact absurd rfl h2
  cases b <;> simp [behindInMarks, e1, e2]
theorem pe_cmpR {op : CmpOp} {r : R2} (ho : OpR X (compareOp op) r) (ha : PE X a ta) (hb : PE X b tb) (hm : behindInMarks op b = false) : PE X (.Compare a [op] [b] pos) (tOp r ta tb) := by
  intro pins s σ H Q I h
  exact wpAny_Compare1 (binT ha hb I h fun v u s2 x y H2 I2 rx ry q => ho pins s2 σ H2 x y v u Q I2 rx ry q) hm
def tTest (t : TE) : TT := fun σ H Q => t σ H fun x H' => ∃ k, x = .bl k ∧ Q k H'
theorem pt_cmpR {op : CmpOp} {r : R2} (ho : OpR X (compareOp op) r) (ha : PE X a ta) (hb : PE X b tb) (hm : behindInMarks op b = false) : PT X (.Compare a [op] [b] pos) (tTest (tOp r ta tb)) := by
  intro pins s σ H Q I h
  refine wpAny_isTrue_Compare1 (thn (ha pins s σ H _ I h) fun v s1 ⟨x, H1, I1, r1, q1⟩ => thn (hb pins s1 σ H1 _ I1 q1) fun u s2 ⟨y, H2, I2, r2, q2⟩ =>
    thn (ho pins s2 σ H2 x y v u _ I2 r1 r2 q2) fun c s3 ⟨z, H3, I3, r3, k, e, q3⟩ => ?_) hm
  subst e
  cases r3
  exact wpAny_truthy_bool ⟨H3, I3, q3⟩
def TruV (K : PySem.W.Frag) (x : V) (H : Hp) (k : Bool) : Prop :=
  match x with
  | .non => k = false
  | .bl b => k = b
  | .int i => k = (i != 0)
  | .str y => y.length ≤ sizeLine ∧ k = ((y.length : Int) != 0)
  | .byt y => y.size ≤ sizeLine ∧ k = ((y.size : Int) != 0)
  | .ref p => (∃ xs, SqL K H p xs ∧ k = !xs.isEmpty) ∨ (∃ xs, SqT K H p xs ∧ k = !xs.isEmpty) ∨ ∃ kvs, H p = some (.dK kvs) ∧ k = !kvs.isEmpty
  | _ => False
theorem isEmpty_kv {κ : Type} {kvs : List (κ × V)} {vs : List (κ × Value)} (r : KV kvs vs) : (!vs.isEmpty) = !kvs.isEmpty := by
  cases r <;> rfl
theorem isEmpty_of {xs : List V} {its : List Value} (r : Vals xs its) : (!its.toArray.isEmpty) = !xs.isEmpty := by
  cases r <;> simp
theorem line63 : (sizeLine : Nat) < 2 ^ 63 := by rw [sizeLine_eq]; decide
theorem tru_ok : TruR X (fun x H Q => ∃ k, TruV X.K x H k ∧ Q k H) := by
  intro pins s σ H x v Q I rx h
  obtain ⟨k, e, q⟩ := h
  have hl := line63
  have hs : sizeLine = 16777216 := sizeLine_eq
  cases x with
  | non =>
    cases rx
    have e' : k = false := e
    subst e'
    exact truthy_none ⟨H, I, q⟩
  | bl b =>
    cases rx
    have e' : k = b := e
    subst e'
    exact wpAny_truthy_bool ⟨H, I, q⟩
  | int i =>
    obtain ⟨t, rfl⟩ := rx
    have e' : k = (i != 0) := e
    subst e'
    exact PySem.P.truthy_int ⟨H, I, q⟩
  | str y =>
    obtain ⟨t, rfl⟩ := rx
    obtain ⟨hy, e'⟩ : y.length ≤ sizeLine ∧ k = ((y.length : Int) != 0) := e
    subst e'
    exact PySem.P.truthy_str (by omega) ⟨H, I.tok _, q⟩
  | byt y =>
    obtain ⟨t, rfl⟩ := rx
    obtain ⟨hy, e'⟩ : y.size ≤ sizeLine ∧ k = ((y.size : Int) != 0) := e
    subst e'
    exact PySem.W.truthy_bytes (by omega) ⟨H, I.tok _, q⟩
  | ref p =>
    cases rx
    have e' : (∃ xs, SqL X.K H p xs ∧ k = !xs.isEmpty) ∨ (∃ xs, SqT X.K H p xs ∧ k = !xs.isEmpty) ∨ ∃ kvs, H p = some (.dK kvs) ∧ k = !kvs.isEmpty := e
    rcases e' with ⟨xs, hx, e'⟩ | ⟨xs, hx, e'⟩ | ⟨kvs, hx, e'⟩
    · subst e'
      obtain ⟨its, r, pl, hz⟩ := I.list hx
      have hlen := r.length
      exact wpAny_truthy_list pl.isList (by simp only [List.size_toArray]; omega) ⟨H, I.tok _, by rw [isEmpty_of r]; exact q⟩
    · subst e'
      obtain ⟨its, r, pl, hz⟩ := I.tuple hx
      have hlen := r.length
      exact truthy_tuple pl (by simp only [List.size_toArray]; omega) ⟨H, I.tok _, by rw [isEmpty_of r]; exact q⟩
    · subst e'
      obtain ⟨hz, hS, vs, r, m⟩ : kvs.length ≤ sizeLine ∧ (p == sysModules) = false ∧ ∃ vs, KV kvs vs ∧ s.heap.DictOf (mixKind X.prog X.w) p vs := I.hok p _ hx
      have hlen : kvs.length = vs.length := Paired.length r
      exact wpAny_truthy_dict hS m (by omega) ⟨H, I.tok _, by rw [isEmpty_kv r]; exact q⟩
  | _ => exact (show False from e).elim
theorem pt_truth (ha : PE X a ta) (he : ∀ whole, isTrue a X.env whole = (do let v ← whole; standAt a.pos; holding [v] (truthy v))) :
    PT X a (fun σ H Q => ta σ H fun x H' => ∃ k, TruV X.K x H' k ∧ Q k H') := by
  intro pins s σ H Q I h
  exact isTrue_plain (thn (ha pins s σ H _ I h) fun v s1 ⟨x, H1, I1, r1, q1⟩ => tru_ok pins s1 σ H1 x v Q I1 r1 q1) (he _)
theorem op_add_str : OpR X (binaryOp .Add) (fun x y H Q => ∃ i j, x = .str i ∧ y = .str j ∧ i.length + j.length ≤ sizeLine ∧ Q (.str (i ++ j)) H) := by
  intro pins s σ H x y v u Q I rx ry h
  obtain ⟨i, j, rfl, rfl, hz, q⟩ := h
  obtain ⟨t, rfl⟩ := rx
  obtain ⟨t', rfl⟩ := ry
  exact add_str (fun t' tk => ⟨.str (i ++ j), H, I.tok _, ⟨_, rfl⟩, q⟩) hz
theorem vals1 {x : V} {us : List Value} (r : Vals [x] us) : ∃ u, us = [u] ∧ RelV x u := by
  cases r with
  | cons r1 r2 => cases r2; exact ⟨_, rfl, r1⟩
theorem vals2 {x y : V} {us : List Value} (r : Vals [x, y] us) : ∃ u w', us = [u, w'] ∧ RelV x u ∧ RelV y w' := by
  cases r with
  | cons r1 r2 =>
    cases r2 with
    | cons r3 r4 => cases r4; exact ⟨_, _, rfl, r1, r3⟩
theorem call_abs : CallR X (.builtin "abs") (fun xs H Q => ∃ i, xs = [.int i] ∧ Q (.int (if i < 0 then -i else i)) H) := by
  intro pins s σ H xs us Q I r h
  obtain ⟨i, rfl, q⟩ := h
  obtain ⟨u, rfl, t, rfl⟩ := vals1 r
  exact call_abs_int fun u tk => ⟨.int (if i < 0 then -i else i), H, I.tok _, ⟨_, rfl⟩, q⟩
theorem call_min2 (hc : X.calm = true) : CallR X (.builtin "min") (fun xs H Q => ∃ i j, xs = [.int i, .int j] ∧ Q (.int (if j < i then j else i)) H) := by
  intro pins s σ H xs us Q I r h
  obtain ⟨i, j, rfl, q⟩ := h
  obtain ⟨u, w', rfl, ⟨t, rfl⟩, ⟨t', rfl⟩⟩ := vals2 r
  refine min_two_ints (I.ok.hd hc) fun h' tk k => ⟨_, H, I.kept k, ?_, q⟩
  by_cases hj : j < i
  · rw [if_pos hj, if_pos hj]; exact ⟨_, rfl⟩
  · rw [if_neg hj, if_neg hj]; exact ⟨_, rfl⟩
theorem call_int1 : CallR X (.type "int") (fun xs H Q => (∃ i, xs = [.int i] ∧ Q (.int i) H) ∨ ∃ k, xs = [.bl k] ∧ Q (.int (if k then 1 else 0)) H) := by
  intro pins s σ H xs us Q I r h
  rcases h with ⟨i, rfl, q⟩ | ⟨k, rfl, q⟩
  · obtain ⟨u, rfl, t, rfl⟩ := vals1 r
    exact call_int_int ⟨.int i, H, I, ⟨_, rfl⟩, q⟩
  · obtain ⟨u, rfl, r1⟩ := vals1 r
    cases r1
    exact call_int_bool ⟨.int (if k then 1 else 0), H, I.tok _, ⟨_, rfl⟩, q⟩
end
end L2
namespace L2
open PySem PySem.Spec PyProof.Rows
structure ObjM (h : Heap) (x dx C : Addr) (mA : Str → Option Value) : Prop where
  obj : h.get? x = some (PySem.W.instObj C dx)
  ns : h.Ns1 dx mA
  ne : dx ≠ x
theorem lookIn_ns {h : Heap} {dx : Addr} {mA : Str → Option Value} (n : h.Ns1 dx mA) : ∃ od, h.get? dx = some od ∧ ∀ name, PySem.W.lookIn name od = some (mA name) := by
  obtain ⟨o, es, ep, ho, hd, hk, _, hm⟩ := n
  refine ⟨o, ho, fun name => ?_⟩
  have e := hm name
  unfold nsFind findBy at e
  rw [← Array.find?_toList] at e
  unfold PySem.W.lookIn
  rw [hd]
  dsimp only
  split
  · rename_i y q
    rw [q] at e
    exact congrArg some e
  · rename_i q
    rw [q] at e
    have a : es.toList.any (·.refKey) = false := by
      rw [List.any_eq_false]
      intro y hy
      obtain ⟨z, t, hkey⟩ := hk y (Array.mem_toList_iff.mp hy)
      simp [DictEntry.refKey, hkey]
    have a' : ¬ es.toList.any (·.refKey) = true := by rw [a]; exact Bool.false_ne_true
    rw [if_neg a']
    exact congrArg some e
theorem ObjM.look {h : Heap} {x dx C : Addr} {mA : Str → Option Value} (I : ObjM h x dx C mA) : ∃ od, PySem.W.InstAt h x (PySem.W.instObj C dx) C (some od) ∧ ∀ name, PySem.W.lookIn name od = some (mA name) :=
  let ⟨od, ho, hl⟩ := lookIn_ns I.ns
  ⟨od, ⟨I.obj, rfl, rfl, ho⟩, hl⟩
section
variable {prog : Program} {w : World} {A : Around} {E : Value → Shared → Prop} {s : Shared} {K : PySem.W.Frag} {x dx C f : Addr} {mA : Str → Option Value} {name : Str} {v : Value}
end
theorem RelO.none_of {o : Option Value} (r : RelO none o) : o = none := by
  cases o with
  | none => rfl
  | some u => exact (show False from r).elim
section
variable {P : Program} {w : World} {H H' : Hp} {h h' : Heap} {a C dx : Addr} {fs fs' : List (Str × V)}
theorem ins_get (hok : HOk P w H h) (e : H a = some (.ins C dx fs)) : ∃ mA, ObjM h a dx C mA ∧ (∀ f, RelO (fs.lookup f) (mA f)) ∧ PySem.Within mA (fs.map (·.1)) ∧ fs.length ≤ 1000 ∧ H dx = some (.own a) := by
  obtain ⟨d, z, ne, ob, mA, n, r, q⟩ := (show ObjOk P w H h a (.ins C dx fs) from hok a _ e)
  exact ⟨mA, ⟨ob, n, ne⟩, r, q, z, d⟩
end
structure Cls (K : PySem.W.Frag) (C : Addr) : Prop where
  pg : PySem.W.plainGet K C Str.empty = true
  hd : PySem.W.hasDictIn K C = true
  po : PySem.W.plainOver K C = true
  sa : PySem.W.findIn K (.ref C) "__setattr__" = some (some (.builtin "object.__setattr__"))
theorem Cls.get {K : PySem.W.Frag} {C : Addr} (c : Cls K C) (f : Str) : PySem.W.plainGet K C f = true := c.pg
structure Con (K : PySem.W.Frag) (C : Addr) (f : Str) (v : V) (u : Value) : Prop where
  at_ : PySem.W.findIn K (.ref C) f = some (some u)
  rel : RelV v u
  get : PySem.W.specialIn K u "__get__" = some none
  cp : PySem.W.copiedNames.contains f = false
structure Meth (K : PySem.W.Frag) (C : Addr) (m : Str) (f : Addr) : Prop where
  at_ : PySem.W.findIn K (.ref C) m = some (some (.ref f))
  fn : PySem.W.isFn K (.ref f) = true
  kp : PySem.W.keepIn K (.ref f) = true
section
variable {X : Cx} {pins : List (Addr × Obj)} {σ : St} {H : Hp} {s : Shared} {a C dx : Addr} {fs : List (Str × V)} {f : Str} {v : V} {A : Around} {E : Value → Shared → Prop}
theorem Inv.made (I : Inv X pins σ H s) : Inv X pins σ (upd (upd H s.heap.objs.size (.own (s.heap.objs.size + 1))) (s.heap.objs.size + 1) (.ins C s.heap.objs.size []))
    { s with heap := (s.heap.push PySem.W.emptyDict).push (PySem.W.instObj C s.heap.objs.size) } := by
  have e1 : (s.heap.push PySem.W.emptyDict).get? s.heap.objs.size = some PySem.W.emptyDict := Heap.get?_push_size s.heap rfl
  have e2 : ((s.heap.push PySem.W.emptyDict).push (PySem.W.instObj C s.heap.objs.size)).get? (s.heap.objs.size + 1) = some (PySem.W.instObj C s.heap.objs.size) := by
    have := Heap.get?_push_size (s.heap.push PySem.W.emptyDict) (o := PySem.W.instObj C s.heap.objs.size) rfl
    rwa [Heap.size_push] at this
  have e3 : (s.heap.push PySem.W.emptyDict).Ns s.heap.objs.size (fun _ => none) := ⟨PySem.W.emptyDict, #[], _, e1, rfl, (fun e he => absurd he (by simp)), fun _ => rfl⟩
  have I1 := I.laid (a := s.heap.objs.size) (o := .own (s.heap.objs.size + 1)) (h' := s.heap.push PySem.W.emptyDict) (t' := s.toks) (fun b u q => Heap.get?_push_of_some _ q) (Nat.le_refl _) ⟨_, e1⟩
  refine I1.laid (a := s.heap.objs.size + 1) (o := .ins C s.heap.objs.size []) (t' := s.toks) (fun b u q => Heap.get?_push_of_some _ q) (Nat.le_of_eq (Heap.size_push _ _)) ?_
  have ne : s.heap.objs.size ≠ s.heap.objs.size + 1 := Nat.ne_of_lt (Nat.lt_succ_self _)
  refine ⟨by rw [upd_ne ne, upd_same], Nat.zero_le _, ne, e2, fun _ => none, (Heap.Ns1.of_empty e3).at fun o q => Heap.get?_push_of_some _ q, fun _ => True.intro, fun y hy => absurd rfl hy⟩
end
section
variable {X : Cx} {o e value : Expr} {f : Str} {pos pos' tpos : Pos} {ta tv : TE}
end
section
variable {X : Cx} {pins : List (Addr × Obj)} {σ : St} {H : Hp} {s : Shared} {A : Around} {E : Value → Shared → Prop} {Q : Value → Shared → Prop} {c : Value} {b : Bool}
inductive TyOf (K : PySem.W.Frag) (H : Hp) : V → Value → Prop where
  | non : TyOf K H .non (.type "NoneType")
  | bl (x : Bool) : TyOf K H (.bl x) (.type "bool")
  | int (i : Int) : TyOf K H (.int i) (.type "int")
  | str (x : Str) : TyOf K H (.str x) (.type "str")
  | flt (x : UInt64) : TyOf K H (.flt x) (.type "float")
  | lst {a : Addr} {xs : List V} (e : H a = some (.lst xs)) : TyOf K H (.ref a) (.type "list")
  | frz {a : Addr} {o : Obj} {xs : List V} (e : H a = some (.frz o (.lst xs))) : TyOf K H (.ref a) (.type "list")
  | tup {a : Addr} {xs : List V} (e : H a = some (.tup xs)) : TyOf K H (.ref a) (.type "tuple")
  | dK {a : Addr} {kvs : List (Key × V)} (e : H a = some (.dK kvs)) : TyOf K H (.ref a) (.type "dict")
  | dT {a : Addr} {kvs : List (List Key × V)} (e : H a = some (.dT kvs)) : TyOf K H (.ref a) (.type "dict")
  | ins {a C dx : Addr} {fs : List (Str × V)} (e : H a = some (.ins C dx fs)) (cl : Cls K C) (ha : PySem.W.findIn K (.ref C) "__class__" = some (some (.builtin "object.__class__")))
      (hn : PySem.W.specialIn K (.builtin "object.__class__") "__get__" = some (some (.builtin "getset_descriptor.__get__"))) (htk : PySem.W.takesIn K (.builtin "object.__class__") = some true)
      (hm : PySem.W.mroIn K C (.type "object") = some true) : TyOf K H (.ref a) (.ref C)
theorem isinst_ok {x : V} {u t : Value} (I : Inv X pins σ H s) (rx : RelV x u) (ty : TyOf X.K H x t) (e : PySem.W.kitOne X.K t c = some b) (h : ∀ tk, Q (.bool b) { s with toks := tk }) :
    wpAny (model X.prog X.w) A (call (.builtin "isinstance") [u, c]) Q E s := by
  cases ty with
  | non => cases (show u = Value.none from rx); exact PySem.W.kia_one PySem.W.kitx_none I.kIn True.intro e (fun z => nomatch z) h
  | bl y => cases (show u = Value.bool y from rx); exact PySem.W.kia_one PySem.W.kitx_bool I.kIn True.intro e (fun z => nomatch z) h
  | int i => obtain ⟨t, q⟩ := (show ∃ t, u = Value.int i t from rx); cases q; exact PySem.W.kia_one PySem.W.kitx_int I.kIn True.intro e (fun z => nomatch z) h
  | str y => obtain ⟨t, q⟩ := (show ∃ t, u = Value.str y t from rx); cases q; exact PySem.W.kia_one PySem.W.kitx_str I.kIn True.intro e (fun z => nomatch z) h
  | flt y => obtain ⟨t, q⟩ := (show ∃ t, u = Value.float y t from rx); cases q; exact PySem.W.kia_one PySem.W.kitx_float I.kIn True.intro e (fun z => nomatch z) h
  | @lst a xs ea =>
    cases (show u = Value.ref a from rx)
    obtain ⟨_, _, n, _, h1⟩ := (show ObjOk X.prog X.w H s.heap a (.lst xs) from I.hok a _ ea)
    exact PySem.W.kia_one PySem.W.kitx_list I.kIn ⟨_, h1, rfl⟩ e (fun z => nomatch z) h
  | @frz a ob xs ea =>
    cases (show u = Value.ref a from rx)
    obtain ⟨_, _, _, n, _, h1⟩ := (show ObjOk X.prog X.w H s.heap a (.frz ob (.lst xs)) from I.hok a _ ea)
    exact PySem.W.kia_one PySem.W.kitx_list I.kIn ⟨_, h1, rfl⟩ e (fun z => nomatch z) h
  | @tup a xs ea =>
    cases (show u = Value.ref a from rx)
    obtain ⟨_, _, _, p⟩ := (show ObjOk X.prog X.w H s.heap a (.tup xs) from I.hok a _ ea)
    obtain ⟨o, h1, h2, _⟩ := p
    exact PySem.W.kia_one PySem.W.kitx_tuple I.kIn ⟨o, h1, h2⟩ e (fun z => nomatch z) h
  | @dK a kvs ea =>
    cases (show u = Value.ref a from rx)
    obtain ⟨_, _, vs, _, p⟩ := (show ObjOk X.prog X.w H s.heap a (.dK kvs) from I.hok a _ ea)
    obtain ⟨o, es, ep, h1, h2, _⟩ := p
    exact PySem.W.kia_one PySem.W.kitx_dict I.kIn ⟨o, h1, h2.1⟩ e (fun z => nomatch z) h
  | @dT a kvs ea =>
    cases (show u = Value.ref a from rx)
    obtain ⟨_, _, xs, _, o, es, ep, h1, h2, _⟩ := (show ObjOk X.prog X.w H s.heap a (.dT kvs) from I.hok a _ ea)
    exact PySem.W.kia_one PySem.W.kitx_dict I.kIn ⟨o, h1, h2.1⟩ e (fun z => nomatch z) h
  | @ins a C dx fs ea cl ha hn htk hm =>
    cases (show u = Value.ref a from rx)
    obtain ⟨mA, O, _⟩ := ins_get I.hok ea
    obtain ⟨od, J, _⟩ := O.look
    exact PySem.W.kia_one (PySem.W.kitx_own (cl.get _) cl.hd ha hn htk hm) I.kIn J e (fun z => nomatch z) h
end
end L2
namespace L2
open PySem PySem.Spec PyProof.Rows
structure Room (k : Nat) (A : Around) : Prop where
  hd : A.handled = none
  dp : A.depth + 3 * k + 5 < recursionLimit
  un : A.units + 16 * k + 200 < cLine
  gd : A.guards = some []
theorem Room.mono {j k : Nat} {A : Around} (r : Room k A) (h : j ≤ k) : Room j A := ⟨r.hd, by have := r.dp; omega, by have := r.un; omega, r.gd⟩
theorem Room.deeper {k : Nat} {A : Around} (r : Room (k + 1) A) (env : Env) : Room k (A.deeper env) :=
  ⟨r.hd, by have := r.dp; show A.depth + 1 + 3 * k + 5 < _; omega, by have := r.un; show A.units + 3 + 16 * k + 200 < _; omega, r.gd⟩
theorem Room.in1 {k : Nat} {A : Around} (r : Room (k + 1) A) : Room k A.in1 :=
  ⟨r.hd, by have := r.dp; show A.depth + 3 * k + 5 < _; omega, by have := r.un; show A.units + 1 + 16 * k + 200 < _; omega, r.gd⟩
theorem make_depth {A : Around} {C : Addr} {us : List Value} {kw : List (Str × Value)} : (A.under (.builtin "type.__call__" ⟨.ref C :: us, kw⟩)).depth = A.depth + 1 := by
  first | rfl | simp [Around.under, Code.weight, Code.isCreation, Code.isGuard, Code.isCaller, Code.frames, Code.isFrame, guardIds]
theorem make_units {A : Around} {C : Addr} {us : List Value} {kw : List (Str × Value)} : (A.under (.builtin "type.__call__" ⟨.ref C :: us, kw⟩)).units = A.units + 1 := by
  first | rfl | simp [Around.under, Code.cUnits, Code.frames, Code.isFrame]
theorem make_guards {A : Around} {C : Addr} {us : List Value} {kw : List (Str × Value)} : (A.under (.builtin "type.__call__" ⟨.ref C :: us, kw⟩)).guards = A.guards := by
  first | rfl | simp [Around.under, Code.guards, Code.isGuard, guardIds, pushGuards]
theorem Room.make {k : Nat} {A : Around} (r : Room (k + 1) A) (C : Addr) (us : List Value) (kw : List (Str × Value)) : Room k (A.under (.builtin "type.__call__" ⟨.ref C :: us, kw⟩)) :=
  ⟨r.hd, by have := r.dp; rw [make_depth]; omega, by have := r.un; rw [make_units]; omega, by rw [make_guards]; exact r.gd⟩
theorem Room.depth {k : Nat} {A : Around} (r : Room k A) : A.depth < recursionLimit := by have := r.dp; omega
theorem Room.units {k : Nat} {A : Around} (r : Room k A) : A.units + 64 < cLine := by have := r.un; omega
def tNil : TA := fun _ H Q => Q [] H
def tCons (ta : TE) (tr : TA) : TA := fun σ H Q => ta σ H fun x H1 => tr σ H1 fun xs H2 => Q (x :: xs) H2
section
variable {X : Cx} {e : Expr} {es : List Expr} {te : TE} {t : TA} {pos : Pos}
theorem pa_nil : PA X [] tNil := fun _ _ _ _ H Q I h => Calls.spliced_nil ⟨[], H, I, .nil, h⟩
theorem pa_cons (ha : PE X e te) (hr : PA X es t) (hs : starEach (e :: es) X.env = (false, eval e X.env) :: starEach es X.env := by rfl) : PA X (e :: es) (tCons te t) := by
  intro pos pins s σ H Q I h
  rw [hs]
  show wpAny _ _ (spliced ((false, eval e X.env) :: backTo pos (starEach es X.env))) _ _ s
  refine Calls.spliced_cons (thn (ha pins s σ H _ I h) fun u s1 ⟨x, H1, I1, r1, q1⟩ => ?_)
  exact thn (hr pos pins s1 σ H1 _ I1 q1) fun us s2 ⟨xs, H2, I2, r2, q2⟩ => ⟨x :: xs, H2, I2, .cons r1 r2, q2⟩
def tTup (t : TA) : TE := fun σ H Q => t σ H fun xs H1 => xs.length ≤ sizeLine ∧ ∀ p, H1 p = none → Q (.ref p) (upd H1 p (.tup xs))
def tLst (t : TA) : TE := fun σ H Q => t σ H fun xs H1 => xs.length ≤ sizeLine ∧ ∀ p, H1 p = none → Q (.ref p) (upd H1 p (.lst xs))
theorem pe_tup {x1} (h : PA X es t) : PE X (.Tuple es x1 pos) (tTup t) := by
  intro pins s σ H Q I hq
  refine wpAny_Tuple_spliced (thn (h pos pins s σ H _ I hq) fun us s1 ⟨xs, H1, I1, r, z, q⟩ => ⟨by rw [← r.length]; exact z, ?_⟩)
  have hf : H1 s1.heap.objs.size = none := I1.hok.fresh (Nat.le_refl _)
  refine ⟨.ref s1.heap.objs.size, upd H1 s1.heap.objs.size (.tup xs), I1.laid (t' := s1.toks) (fun b u e => Heap.get?_push_of_some _ e) (Nat.le_refl _) ?_, rfl, q _ hf⟩
  exact ⟨z, us, r, ⟨_, Heap.get?_push_size _ rfl, rfl, _, rfl⟩⟩
theorem pe_lst (h : PA X es t) : PE X (.List es pos) (tLst t) := by
  intro pins s σ H Q I hq
  refine wpAny_List_spliced (thn (h pos pins s σ H _ I hq) fun us s1 ⟨xs, H1, I1, r, z, q⟩ => ⟨by rw [← r.length]; exact z, ?_⟩)
  have hf : H1 s1.heap.objs.size = none := I1.hok.fresh (Nat.le_refl _)
  refine ⟨.ref s1.heap.objs.size, upd H1 s1.heap.objs.size (.lst xs), I1.laid (t' := s1.toks) (fun b u e => Heap.get?_push_of_some _ e) (Nat.le_refl _) ?_, rfl, q _ hf⟩
  exact ⟨z, us, 0, r, Heap.get?_push_size _ rfl⟩
end
abbrev Sp := List V → Hp → VK → XK → Prop
abbrev CXT := List Env → Hp → Shared → XK → Value → Shared → Prop
structure Env0 (P : Program) (w : World) (K : PySem.W.Frag) (mg : Str → Option Value) (base : Heap) (A : Around) (outer : List Env) (s : Shared) (H : Hp) : Prop where
  frames : A.frames = some outer
  mod : Mod K mg base
  bs : ∀ b o, base.get? b = some o → s.heap.get? b = some o ∧ H b = none
  bsz : base.objs.size ≤ s.heap.objs.size
  funs : s.heap.FunFrames base outer
  frf : ∀ b ∈ frs outer, H b = none
  hok : HOk P w H s.heap
  bare : AllBare s.gens
def CE (outer : List Env) (P : Program) (w : World) (H : Hp) (s : Shared) (Q : VK) (u : Value) (s' : Shared) : Prop :=
  ∃ v H', s'.os = s.os ∧ AllBare s'.gens ∧ Un (frs outer) [] H H' s.heap s'.heap ∧ HOk P w H' s'.heap ∧ RelV v u ∧ Q v H'
def CR (CX : CXT) (outer : List Env) (P : Program) (w : World) (H : Hp) (s : Shared) (Q : VK) (E : XK) (r : Result) (s' : Shared) : Prop :=
  match r with
  | .ok (.ret u) => CE outer P w H s Q u s'
  | .ok _ => False
  | .error e => CX outer H s E e s'
structure FnOk (P : Program) (w : World) (K : PySem.W.Frag) (mg : Str → Option Value) (base : Heap) (CX : CXT) (k : Nat) (f : Addr) (fd : FuncData) (ps : List Str) (sp : Sp) : Prop where
  len : ∀ vs H Q E, sp vs H Q E → vs.length = ps.length
  run : ∀ (A : Around) (outer : List Env) (s : Shared) (H : Hp) (args : Args) (us : List Value) (vs : List V) (Q : VK) (E : XK), Room k A → Env0 P w K mg base A outer s H → BindsTo s fd args (ps.zip us) → Vals vs us → sp vs H Q E →
    codeAny (model P w) A (.call (.ref f) args) (CR CX outer P w H s Q E) s
theorem FnOk.mono {P : Program} {w : World} {K : PySem.W.Frag} {mg : Str → Option Value} {base : Heap} {CX : CXT} {j k : Nat} {f : Addr} {fd : FuncData} {ps : List Str} {sp : Sp} (F : FnOk P w K mg base CX j f fd ps sp) (h : j ≤ k) :
    FnOk P w K mg base CX k f fd ps sp := ⟨F.len, fun A outer s H args us vs Q E hr => F.run A outer s H args us vs Q E (hr.mono h)⟩
theorem FnOk.imp {P : Program} {w : World} {K : PySem.W.Frag} {mg : Str → Option Value} {base : Heap} {CX : CXT} {k : Nat} {f : Addr} {fd : FuncData} {ps : List Str} {sp sp' : Sp} (F : FnOk P w K mg base CX k f fd ps sp)
    (h : ∀ vs H Q E, sp' vs H Q E → sp vs H Q E) : FnOk P w K mg base CX k f fd ps sp' :=
  ⟨fun vs H Q E q => F.len vs H Q E (h _ _ _ _ q), fun A outer s H args us vs Q E hr he hb hv hs => F.run A outer s H args us vs Q E hr he hb hv (h _ _ _ _ hs)⟩
theorem Env0.make {P : Program} {w : World} {K : PySem.W.Frag} {mg : Str → Option Value} {base : Heap} {A : Around} {outer : List Env} {s : Shared} {H : Hp} (e : Env0 P w K mg base A outer s H) (C : Addr) (us : List Value) (kw : List (Str × Value)) :
    Env0 P w K mg base (A.under (.builtin "type.__call__" ⟨.ref C :: us, kw⟩)) outer s H := ⟨by first | exact e.frames | (simpa [Around.under, Code.envs, Code.isFrame, pushEnvs] using e.frames), e.mod, e.bs, e.bsz, e.funs, e.frf, e.hok, e.bare⟩
theorem Env0.in1 {P : Program} {w : World} {K : PySem.W.Frag} {mg : Str → Option Value} {base : Heap} {A : Around} {outer : List Env} {s : Shared} {H : Hp} (e : Env0 P w K mg base A outer s H) :
    Env0 P w K mg base A.in1 outer s H := ⟨e.frames, e.mod, e.bs, e.bsz, e.funs, e.frf, e.hok, e.bare⟩
section
variable {X : Cx} {pins : List (Addr × Obj)} {σ : St} {H : Hp} {s s' : Shared}
theorem Inv.env0 (I : Inv X pins σ H s) : Env0 X.prog X.w X.K X.mg X.base X.A X.stack s H :=
  ⟨I.ok.frames, I.ok.mod, I.bs, Nat.le_trans I.ok.bsz I.sz, I.stack, I.stkFree, I.hok, I.bare⟩
theorem Inv.after {Q : VK} {u : Value} (I : Inv X pins σ H s) (h : CE X.stack X.prog X.w H s Q u s') : EP X pins σ Q u s' := by
  obtain ⟨v, H', os, bare, un, hok, r, q⟩ := h
  obtain ⟨hh, g, d, t, os'⟩ := s'
  obtain rfl : os' = s.os := os
  exact ⟨v, H', I.call (h' := hh) (g' := g) (d' := d) (t' := t) (ch := []) un hok bare (fun b z => absurd z (by simp)), r, q⟩
end
def tCall (sp : Sp) (dvs : List V) (E : XK) (t : TA) : TE := fun σ H Q => t σ H fun vs H1 => sp (vs ++ dvs) H1 Q E
def Binds (K : PySem.W.Frag) (fd : FuncData) (ps : List Str) (ds : List Value) : Prop :=
  ∀ (s : Shared) (us : List Value), K.In s.heap → (us ++ ds).length = ps.length → BindsTo s fd ⟨us, []⟩ (ps.zip (us ++ ds))
theorem Binds.all {K : PySem.W.Frag} {fd : FuncData} {ps : List Str} (h : ∀ us : List Value, us.length = ps.length → bindArgs fd ⟨us, []⟩ = pure (ps.zip us)) : Binds K fd ps [] := fun s us _ hl => by
  rw [List.append_nil] at hl ⊢
  exact .of_eq (h us hl)
def Passes (CX : CXT) (X : Cx) (E : XK) : Prop := ∀ (pins : List (Addr × Obj)) (σ : St) (H : Hp) (s : Shared) (e : Value) (s' : Shared), Inv X pins σ H s → CX X.stack H s E e s' → X.xe e s'
section
variable {X : Cx} {CX : CXT} {k : Nat} {f C : Addr} {fd : FuncData} {ps : List Str} {sp : Sp} {dvs : List V} {ds : List Value} {E : XK} {x m : Str} {p pos apos : Pos} {e o : Expr} {es : List Expr} {ta : TE} {t : TA}
theorem run_fn {pins : List (Addr × Obj)} {σ : St} {H : Hp} {s : Shared} {Q : VK} {us : List Value} {vs : List V} (F : FnOk X.prog X.w X.K X.mg X.base CX k f fd ps sp) (hr : Room k X.A) (hb : Binds X.K fd ps ds) (hd : Vals dvs ds) (hx : Passes CX X E)
    (I : Inv X pins σ H s) (r : Vals vs us) (h : sp (vs ++ dvs) H Q E) : wpAny (model X.prog X.w) X.A (call (.ref f) us) (EP X pins σ Q) X.xe s := by
  have r2 : Vals (vs ++ dvs) (us ++ ds) := r.append hd
  have hl : (us ++ ds).length = ps.length := by rw [← r2.length]; exact F.len _ _ _ _ h
  refine wpAny_call (codeAny_mono (F.run X.A X.stack s H ⟨us, []⟩ (us ++ ds) (vs ++ dvs) Q E hr I.env0 (hb s us I.kIn hl) r2 h) fun r s' hq => ?_)
  cases r with
  | error e => exact hx pins σ H s e s' I hq
  | ok fl =>
    cases fl with
    | ret u => exact I.after hq
    | next => exact False.elim hq
    | brk => exact False.elim hq
    | cont => exact False.elim hq
theorem pe_call (F : FnOk X.prog X.w X.K X.mg X.base CX k f fd ps sp) (hr : Room k X.A) (hg : Gl X x) (hm : X.mg x = some (.ref f)) (hk : PySem.W.keepIn X.K (.ref f) = true) (hb : Binds X.K fd ps ds) (hd : Vals dvs ds) (hx : Passes CX X E)
    (ha : PA X (e :: es) t) (hdb : (x == ("__debug__" : Str)) = false := by decide) (he : starEach (e :: es) X.env = (false, eval e X.env) :: starEach es X.env := by rfl) (hpl : (backTo pos (starEach es X.env)).any (·.1) = false := by rfl) :
    PE X (.Call (.Name x p) (e :: es) [] pos) (tCall sp dvs E t) := by
  intro pins s σ H Q I h
  refine wpAny_Call_Name_kw (ld_glob I hg hm ?_ hdb)
  refine PySem.W.callWith_K (h₀ := X.base) I.ok.mod.kin hk (thn (ha pos pins s σ H _ I h) fun us s1 ⟨vs, H1, I1, r, q⟩ => ⟨I1.kIn, ?_⟩) he hpl
  exact run_fn F hr hb hd hx I1 r q
structure Mk (K : PySem.W.Frag) (C f : Addr) : Prop where
  makes : PySem.W.makesIn K C = true
  init : PySem.W.findIn K (.ref C) "__init__" = some (some (.ref f))
  fn : PySem.W.isFn K (.ref f) = true
  kp : PySem.W.keepIn K (.ref C) = true
end
section
variable {X : Cx} {CX : CXT} {k : Nat} {f C : Addr} {fd : FuncData} {ps ks : List Str} {sp : Sp} {E : XK} {x m : Str} {p pos apos kpos : Pos} {e o : Expr} {es : List Expr} {kws : List Keyword} {te ta : TE} {t tk : TA} {nm : Option Str}
structure KBinds (K : PySem.W.Frag) (fd : FuncData) (ps ks : List Str) (g : List Value → List Value → List Value) (gV : List V → List V → List V) : Prop where
  to : ∀ (s : Shared) (us ws : List Value), K.In s.heap → (g us ws).length = ps.length → BindsTo s fd ⟨us, ks.zip ws⟩ (ps.zip (g us ws))
  rel : ∀ {vs : List V} {us : List Value} {zs : List V} {ws : List Value}, Vals vs us → Vals zs ws → Vals (gV vs zs) (g us ws)
variable {g : List Value → List Value → List Value} {gV : List V → List V → List V}
end
structure FnScope (N P : List Str) (sc : Scope) : Prop where
  kind : sc.kind = .function
  co : sc.isCoroutine = false
  gen : sc.isGenerator = false
  nd : N.Nodup
  pre : N.take P.length = P
  par : ∀ x ∈ P, sc.names.lookup x = some .local ∨ sc.names.lookup x = some .cell
  nofree : ∀ y ∈ sc.names, y.2 ≠ .free
theorem bindL_out {kindOf : Str → Option NameKind} {x : Str} : ∀ {binds : List (Str × Value)} {m : Str → Option Value}, (∀ v, (x, v) ∉ binds) → bindL kindOf binds m x = m x
  | [], _, _ => rfl
  | (n, v) :: r, m, h => by
    unfold bindL
    rw [bindL_out fun w hw => h w (List.mem_cons_of_mem _ hw)]
    split
    · have : x ≠ n := by rintro rfl; exact h v List.mem_cons_self
      simp [this]
    · rfl
theorem bindC_out {kindOf : Str → Option NameKind} {x : Str} : ∀ {binds : List (Str × Value)} {m : Str → Option Value}, (∀ v, (x, v) ∉ binds) → bindC kindOf binds m x = m x
  | [], _, _ => rfl
  | (n, v) :: r, m, h => by
    unfold bindC
    rw [bindC_out fun w hw => h w (List.mem_cons_of_mem _ hw)]
    split
    · rfl
    · have : x ≠ n := by rintro rfl; exact h v List.mem_cons_self
      simp [this]
theorem bindL_get {kindOf : Str → Option NameKind} {x : Str} {v : Value} : ∀ {P : List Str} {vs : List Value} {i : Nat} {m : Str → Option Value}, P.Nodup → P[i]? = some x → vs[i]? = some v → kindOf x = some .local →
    bindL kindOf (P.zip vs) m x = some v
  | [], _, _, _, _, h, _, _ => by simp at h
  | _ :: _, [], _, _, _, _, h, _ => by simp at h
  | p :: P, w :: vs, 0, m, nd, h1, h2, hk => by
    simp at h1 h2; subst h1; subst h2
    show bindL kindOf ((p, w) :: P.zip vs) m p = _
    unfold bindL
    rw [bindL_out fun v hv => (List.nodup_cons.mp nd).1 (List.of_mem_zip hv).1, if_pos hk]
    simp
  | p :: P, w :: vs, i + 1, m, nd, h1, h2, hk => by
    show bindL kindOf ((p, w) :: P.zip vs) m x = _
    unfold bindL
    exact bindL_get (i := i) (List.nodup_cons.mp nd).2 (by simpa using h1) (by simpa using h2) hk
theorem bindC_get {kindOf : Str → Option NameKind} {x : Str} {v : Value} : ∀ {P : List Str} {vs : List Value} {i : Nat} {m : Str → Option Value}, P.Nodup → P[i]? = some x → vs[i]? = some v → kindOf x ≠ some .local →
    bindC kindOf (P.zip vs) m x = some v
  | [], _, _, _, _, h, _, _ => by simp at h
  | _ :: _, [], _, _, _, _, h, _ => by simp at h
  | p :: P, w :: vs, 0, m, nd, h1, h2, hk => by
    simp at h1 h2; subst h1; subst h2
    show bindC kindOf ((p, w) :: P.zip vs) m p = _
    unfold bindC
    rw [bindC_out fun v hv => (List.nodup_cons.mp nd).1 (List.of_mem_zip hv).1, if_neg hk]
    simp
  | p :: P, w :: vs, i + 1, m, nd, h1, h2, hk => by
    show bindC kindOf ((p, w) :: P.zip vs) m x = _
    unfold bindC
    exact bindC_get (i := i) (List.nodup_cons.mp nd).2 (by simpa using h1) (by simpa using h2) hk
def start (N : List Str) (vs : List V) : St := vs.map some ++ List.replicate (N.length - vs.length) none
def cxOf (CX : CXT) (P : Program) (w : World) (K : PySem.W.Frag) (mg : Str → Option Value) (base : Heap) (N : List Str) (qual : Str) (scope : Scope) (f : Addr) (cd : Value) (A : Around) (outer : List Env) (s : Shared) (H : Hp) (E : XK) : Cx where
  prog := P
  w := w
  K := K
  mg := mg
  base := base
  A := A.deeper (envOfC qual scope s.heap.objs.size f cd)
  N := N
  s₀ := s
  H₀ := H
  env := envOfC qual scope s.heap.objs.size f cd
  outer := outer
  stack := envOfC qual scope s.heap.objs.size f cd :: outer
  ex := []
  calm := true
  fn := fun _ => true
  pn := []
  xe := fun e s' => wpAny (model P w) (A.deeper (envOfC qual scope s.heap.objs.size f cd)) (leaving (envOfC qual scope s.heap.objs.size f cd) e) (fun _ s'' => CX outer H s E e s'') (fun e' s'' => CX outer H s E e' s'') s'
theorem cell_has {sc : Scope} {n : Nat} {x : Str} (h : sc.names.lookup x = some .cell) : ∃ c, (cellsFrom n sc.names []).lookup x = some c := by
  have q := PySem.W.cellsFrom_some sc.names n [] (.inl h)
  exact Option.isSome_iff_exists.mp q
theorem inv_start {CX : CXT} {P : Program} {w : World} {K : PySem.W.Frag} {mg : Str → Option Value} {base : Heap} {N ps : List Str} {qual : Str} {scope : Scope} {f : Addr} {cd : Value} {A : Around} {outer : List Env} {s s1 : Shared} {H : Hp} {E : XK} {us : List Value} {vs : List V}
    (S : FnScope N ps scope) (hd : A.handled = none) (e0 : Env0 P w K mg base A outer s H) (hl : vs.length = ps.length) (r : Vals vs us)
    (x : InCallC s s.heap.objs.size (bindL (envOfC qual scope s.heap.objs.size f cd).kindOf (ps.zip us) fun _ => none) (cellsFrom (s.heap.objs.size + 1) scope.names []) (bindC (envOfC qual scope s.heap.objs.size f cd).kindOf (ps.zip us) fun _ => none) s1) :
    Inv (cxOf CX P w K mg base N qual scope f cd A outer s H E) [] (start N vs) H s1 := by
  have hpl : ps.length ≤ N.length := by have := congrArg List.length S.pre; rw [List.length_take] at this; omega
  obtain ⟨h1, tk, rfl, hk⟩ := x.done
  have noA : ∀ b : Addr, b ∉ (cxOf CX P w K mg base N qual scope f cd A outer s H E).ex := fun b z => absurd (show b ∈ ([] : List Addr) from z) (by simp)
  refine ⟨⟨e0.mod, S.kind, rfl, rfl, Nat.le_refl _, fun y z c h1 h2 => ?_, fun y hy => ?_, fun y c _ h => ?_, fun _ => hd, Around.frames_deeper e0.frames, .inr ⟨rfl, rfl⟩, fun b z => absurd z (noA b), e0.bs, e0.bsz, fun b _ _ => noA b, fun b z => absurd z (noA b), e0.funs, e0.frf⟩,
    rfl, e0.bare, Un.kept hk, ⟨_, x.toInCall.ns, fun i y v h1 h2 h3 => ?_⟩, fun y c h => ⟨_, x.cell y c h⟩, e0.hok.fresh (Nat.le_refl _), fun y c h => ?_, fun p hp => absurd (show p ∈ ([] : List (Addr × Obj)) from hp) (by simp), e0.hok.kept hk, ?_⟩
  · exact name_of_addr x.apart (PySem.mem_of_lookup h1) (PySem.mem_of_lookup h2)
  · have hy : scope.names.lookup y = some .cell ∨ scope.names.lookup y = some .free := hy
    rcases hy with hy | hy
    · exact cell_has hy
    · exact absurd rfl (S.nofree _ (PySem.mem_of_lookup hy))
  · exact Nat.le_of_lt (x.above y c (PySem.mem_of_lookup h))
  · have hi : i < vs.length := by
      unfold start at h2
      by_cases hi : i < vs.length
      · exact hi
      · rw [List.getElem?_append_right (by simpa using hi)] at h2
        rw [List.getElem?_replicate] at h2
        split at h2 <;> cases h2
    have ha : vs[i]? = some v := by
      unfold start at h2
      rw [List.getElem?_append_left (by simpa using hi), List.getElem?_map] at h2
      cases e : vs[i]? with
      | none => rw [e] at h2; cases h2
      | some a => rw [e] at h2; cases h2; rfl
    obtain ⟨u, hu, rv⟩ := r.get ha
    have hp : ps[i]? = some y := by
      rw [← S.pre, List.getElem?_take_of_lt (by omega)]; exact h1
    have ndP : ps.Nodup := by rw [← S.pre]; exact S.nd.sublist (List.take_sublist _ _)
    refine ⟨u, rv, ?_⟩
    rcases S.par y (List.mem_of_getElem? hp) with k | k
    · exact .inl ⟨k, bindL_get ndP hp hu k⟩
    · obtain ⟨c, e⟩ := cell_has (n := s.heap.objs.size + 1) k
      refine .inr ⟨.inl k, c, e, ?_⟩
      have q := x.cell y c e
      rw [bindC_get ndP hp hu (by show scope.names.lookup y ≠ _; rw [k]; decide)] at q
      exact q
  · exact e0.hok.fresh (Nat.le_of_lt (x.above y c (PySem.mem_of_lookup h)))
  · unfold start
    show _ = N.length
    rw [List.length_append, List.length_map, List.length_replicate]
    omega
theorem fn_of {CX : CXT} {P : Program} {w : World} {K : PySem.W.Frag} {mg : Str → Option Value} {base : Heap} {k : Nat} {f : Addr} {name qual : Str} {params : Arguments} {body : List Stmt} {scope : Scope} {dV kV doc pm cdv ct oc : Value} {an od : Option Addr}
    {osl : Array (Option Value)} {N ps : List Str} {sp : Sp} (lk : K.lookup f = some ⟨oc, od, .func (PySem.W.fnOf name qual params body scope dV kV doc pm an cdv ct), osl⟩) (hcd : PySem.W.codeIn K cdv qual = true) (S : FnScope N ps scope)
    (len : ∀ vs H Q E, sp vs H Q E → vs.length = ps.length)
    (hbody : ∀ (A : Around) (outer : List Env) (s : Shared) (H : Hp) (vs : List V) (Q : VK) (E : XK), Room k (A.deeper (envOfC qual scope s.heap.objs.size f cdv)) → sp vs H Q E →
      ∃ t, PSs (cxOf CX P w K mg base N qual scope f cdv A outer s H E) body t ∧ t { nx := fun _ H' => Q .non H', rt := Q } (start N vs) H) :
    FnOk P w K mg base CX (k + 1) f (PySem.W.fnOf name qual params body scope dV kV doc pm an cdv ct) ps sp := by
  refine ⟨len, fun A outer s H args us vs Q E hr e0 hb r hsp => ?_⟩
  have hl := len _ _ _ _ hsp
  have KX : K.In s.heap := e0.mod.kin.keeps fun b o e => (e0.bs b o e).1
  have lim : s.heap.NoLimit := e0.mod.nolimit.keeps fun b o e => (e0.bs b o e).1
  have hkind : ∀ y ∈ ps.zip us, scope.names.lookup y.1 = some .local ∨ (scope.names.lookup y.1 = some .cell ∧ ((cellsFrom (s.heap.objs.size + 1) scope.names []).lookup y.1).isSome = true) := fun ⟨n, v⟩ hy => by
    rcases S.par n (List.of_mem_zip hy).1 with q | q
    · exact .inl q
    · exact .inr ⟨q, PySem.W.cellsFrom_some _ _ _ (.inl q)⟩
  refine codeAny_call_function hr.depth (KX _ _ lk) rfl S.co S.gen rfl (PySem.W.codeRec_of KX hcd) (hb _ _ _ _ ?_)
  refine wpAny_newFunctionEnv_cells S.kind hkind fun env he s1 x => ?_
  subst he
  refine ⟨lim.keeps x.toInCall.keep, codeAny_func ?_⟩
  obtain ⟨t, ht, hq⟩ := hbody A outer s H vs Q E (hr.deeper _) hsp
  have I : Inv (cxOf CX P w K mg base N qual scope f cdv A outer s H E) [] (start N vs) H s1 := inv_start S hr.hd e0 hl r x
  refine wpAny_mono (ht [] s1 (start N vs) H _ I hq) (fun fl s' hs => ?_) fun e s' hs => hs
  have fin : ∀ {σ' : St} {H' : Hp} {v : V} {u : Value}, Inv (cxOf CX P w K mg base N qual scope f cdv A outer s H E) [] σ' H' s' → RelV v u → Q v H' → CE outer P w H s Q u s' :=
    fun {σ' H' v u} J rv q => ⟨v, H', J.os, J.bare, J.base, J.hok, rv, q⟩
  cases fl with
  | ret u =>
    obtain ⟨v, σ', H', J, rv, q⟩ := hs
    exact fin J rv q
  | next =>
    obtain ⟨σ', H', J, q⟩ := hs
    exact fin (v := V.non) (u := Value.none) J rfl q
  | brk =>
    obtain ⟨_, _, _, q⟩ := hs
    exact False.elim q
  | cont =>
    obtain ⟨_, _, _, q⟩ := hs
    exact False.elim q
end L2
namespace L2
open PySem PySem.Spec PyProof.Rows
section
variable {X : Cx} {x : Str} {p pos : Pos} {e : Expr} {es : List Expr} {t : TA} {id T : String} {r : List V → Hp → VK → Prop}
def tCB (r : List V → Hp → VK → Prop) (t : TA) : TE := fun σ H Q => t σ H fun vs H1 => r vs H1 Q
theorem pe_callB (hc : CallR X (.builtin id) r) (hg : Gl X x) (hm : X.mg x = none) (hv : bootBuiltins x = some (.builtin id)) (ha : PA X (e :: es) t) (hn : x ≠ "__name__" := by decide) (hdb : (x == ("__debug__" : Str)) = false := by decide)
    (he : starEach (e :: es) X.env = (false, eval e X.env) :: starEach es X.env := by rfl) (hpl : (backTo pos (starEach es X.env)).any (·.1) = false := by rfl) : PE X (.Call (.Name x p) (e :: es) [] pos) (tCB r t) := by
  intro pins s σ H Q I h
  refine wpAny_Call_Name_kw (ld_blt I hg hm hv ?_ hn hdb)
  exact PyProof.Rows.callWith_builtin1 (thn (ha pos pins s σ H _ I h) fun us s1 ⟨vs, H1, I1, r1, q1⟩ => hc pins s1 σ H1 vs us Q I1 r1 q1) he hpl
theorem pe_callTy (hc : CallR X (.type T) r) (hg : Gl X x) (hm : X.mg x = none) (hv : bootBuiltins x = some (.type T)) (ha : PA X (e :: es) t) (hn : x ≠ "__name__" := by decide) (hdb : (x == ("__debug__" : Str)) = false := by decide)
    (he : starEach (e :: es) X.env = (false, eval e X.env) :: starEach es X.env := by rfl) (hpl : (backTo pos (starEach es X.env)).any (·.1) = false := by rfl) : PE X (.Call (.Name x p) (e :: es) [] pos) (tCB r t) := by
  intro pins s σ H Q I h
  refine wpAny_Call_Name_kw (ld_blt I hg hm hv ?_ hn hdb)
  exact PyProof.Rows.callWith_type1 (thn (ha pos pins s σ H _ I h) fun us s1 ⟨vs, H1, I1, r1, q1⟩ => hc pins s1 σ H1 vs us Q I1 r1 q1) he hpl
end
end L2
namespace HT
open PySem PyProof.Rows
section
open PySem.SeqAt
open PySem.AutoSeq1 (wpAny_loadPart')
open PySem.MeetsSeq PySem.MeetsSeq2 PySem.MeetsSeq3
end
section
variable {prog : Program} {w : World} {A : Around} {E : Value → Shared → Prop} {s : Shared}
end
end HT
namespace L2
open PySem PySem.Spec PyProof.Rows
abbrev TO := St → Hp → (Option Int → Hp → Prop) → Prop
def PO (X : Cx) (e : Option Expr) (t : TO) : Prop :=
  ∀ (pins : List (Addr × Obj)) (s : Shared) (σ : St) (H : Hp) (Q : Option Int → Hp → Prop), Inv X pins σ H s → t σ H Q →
    wpAny (model X.prog X.w) X.A (evalPart e X.env) (fun u s' => ∃ o H', Inv X pins σ H' s' ∧ IsPart u o ∧ Q o H') X.xe s
def tNoPart : TO := fun _ H Q => Q none H
def tPart (t : TE) : TO := fun σ H Q => t σ H fun x H1 => ∃ i, x = .int i ∧ Q (some i) H1
section
variable {X : Cx} {e : Expr} {te : TE} {lo hi : Option Expr} {tl th : TO} {pos p2 : Pos}
theorem po_none : PO X none tNoPart := by
  intro pins s σ H Q I h
  rw [evalPart_none]
  exact wpAny_pure ⟨none, H, I, .none, h⟩
theorem po_some (h : PE X e te) : PO X (some e) (tPart te) := by
  intro pins s σ H Q I hw
  rw [evalPart_some]
  refine thn (h pins s σ H _ I hw) fun u s1 ⟨x, H1, I1, r1, q1⟩ => ?_
  obtain ⟨i, rfl, q⟩ := q1
  obtain ⟨t, rfl⟩ := r1
  exact ⟨some i, H1, I1, .int i t, q⟩
def SlR (X : Cx) (r : V → Option Int → Option Int → Hp → VK → Prop) : Prop :=
  ∀ (pins : List (Addr × Obj)) (s : Shared) (σ : St) (H : Hp) (x : V) (v vl vu : Value) (lo hi : Option Int) (sl : Addr) (Q : VK), Inv X pins σ H s → RelV x v → s.heap.IsSliceOf sl vl vu .none → IsPart vl lo → IsPart vu hi → r x lo hi H Q →
    ∃ T id, typeLookup (.type T) "__getitem__" = pure (some (.builtin id)) ∧ s.TypeIs v T ∧ wpAny (model X.prog X.w) X.A (getItem v (.ref sl)) (EP X pins σ Q) X.xe s
theorem SlR.or {r r' : V → Option Int → Option Int → Hp → VK → Prop} (h : SlR X r) (h' : SlR X r') : SlR X (fun x lo hi H Q => r x lo hi H Q ∨ r' x lo hi H Q) := by
  intro pins s σ H x v vl vu lo hi sl Q I rx hs pl pu q
  rcases q with q | q
  · exact h pins s σ H x v vl vu lo hi sl Q I rx hs pl pu q
  · exact h' pins s σ H x v vl vu lo hi sl Q I rx hs pl pu q
def tSl (r : V → Option Int → Option Int → Hp → VK → Prop) (te : TE) (tl th : TO) : TE := fun σ H Q => te σ H fun x H1 => tl σ H1 fun l H2 => th σ H2 fun u H3 => r x l u H3 Q
theorem pe_slice {r : V → Option Int → Option Int → Hp → VK → Prop} (hr : SlR X r) (he : PE X e te) (hl : PO X lo tl) (hu : PO X hi th) : PE X (.Subscript e (.Slice lo hi none p2) pos) (tSl r te tl th) := by
  intro pins s σ H Q I h
  refine Subscript_ (thn (he pins s σ H _ I h) fun v s1 ⟨x, H1, I1, r1, q1⟩ => ?_)
  refine wpAny_Slice (thn (hl pins s1 σ H1 _ I1 q1) fun vl s2 ⟨l, H2, I2, pl, q2⟩ => thn (hu pins s2 σ H2 _ I2 q2) fun vu s3 ⟨u, H3, I3, pu, q3⟩ => ?_)
  rw [evalPart_none]
  refine wpAny_pure ?_
  have I4 : Inv X pins σ H3 { s3 with heap := s3.heap.push { cls := .type "slice", data := .fields #[vl, vu, .none] } } := I3.kept (t' := s3.toks) fun b ob q => Heap.get?_push_of_some _ q
  obtain ⟨T, id, hT, ht, hg⟩ := hr pins { s3 with heap := s3.heap.push { cls := .type "slice", data := .fields #[vl, vu, .none] } } σ H3 x v vl vu l u s3.heap.objs.size Q I4 r1 (Heap.IsSliceOf.new ..) pl pu q3
  show wpAny (model X.prog X.w) X.A (subscriptTail e (.Slice lo hi none p2) v (.ref s3.heap.objs.size)) (EP X pins σ Q) X.xe { s3 with heap := s3.heap.push { cls := .type "slice", data := .fields #[vl, vu, .none] } }
  exact tail_any (ops := [.ref s3.heap.objs.size, v]) ht hT hg (by with_unfolding_all rfl)
end
end L2
namespace L2
open PySem PySem.Spec PyProof.Rows
def ixN (n : Nat) (i : Int) : Option Nat := if 0 ≤ i then (if i < n then some i.toNat else none) else if -(n : Int) ≤ i then some (i + n).toNat else none
def atI {α : Type} (xs : List α) (i : Int) : Option α := (ixN xs.length i).bind fun j => xs[j]?
theorem ixN_seq {n : Nat} {i : Int} {j : Nat} (h : ixN n i = some j) : seqIndex? i n = some j ∧ j < n ∧ -(n : Int) ≤ i ∧ i < n := by
  unfold ixN at h
  by_cases h0 : 0 ≤ i
  · rw [if_pos h0] at h
    by_cases h1 : i < n
    · rw [if_pos h1] at h
      have e : i.toNat = j := Option.some.inj h
      exact ⟨by rw [seqIndex_of h0 h1, e], by omega, by omega, h1⟩
    · rw [if_neg h1] at h; cases h
  · rw [if_neg h0] at h
    by_cases h1 : -(n : Int) ≤ i
    · rw [if_pos h1] at h
      have e : (i + n).toNat = j := Option.some.inj h
      exact ⟨by rw [seqIndex_neg (by omega) h1, e], by omega, h1, by omega⟩
    · rw [if_neg h1] at h; cases h
theorem atI_get {α : Type} {xs : List α} {i : Int} {v : α} (h : atI xs i = some v) : ∃ j, seqIndex? i xs.length = some j ∧ xs[j]? = some v ∧ j < xs.length ∧ -(xs.length : Int) ≤ i ∧ i < xs.length := by
  unfold atI at h
  cases e : ixN xs.length i with
  | none => rw [e] at h; cases h
  | some j =>
    rw [e] at h
    obtain ⟨h1, h2, h3, h4⟩ := ixN_seq e
    exact ⟨j, h1, h, h2, h3, h4⟩
theorem atI_nat {α : Type} {xs : List α} {j : Nat} {v : α} (h : xs[j]? = some v) : atI xs (j : Int) = some v := by
  have hj : j < xs.length := (List.getElem?_eq_some_iff.mp h).1
  have e : ixN xs.length (j : Int) = some j := by
    unfold ixN
    rw [if_pos (by omega), if_pos (by omega)]; simp
  unfold atI; rw [e]; exact h
def PlainIx (b : Expr) : Prop := ∀ o i, subscripted b false o i = operate [o, i] (getItem o i)
def IxR (X : Cx) (r : R2) : Prop :=
  ∀ (value slice : Expr) (pins : List (Addr × Obj)) (s : Shared) (σ : St) (H : Hp) (x y : V) (v u : Value) (Q : VK), Inv X pins σ H s → RelV x v → RelV y u → r x y H Q →
    subscripted slice false v u = operate [v, u] (getItem v u) → wpAny (model X.prog X.w) X.A (subscriptTail value slice v u) (EP X pins σ Q) X.xe s
def MtR (X : Cx) (id : String) (r : V → List V → Hp → VK → Prop) : Prop :=
  ∀ (pins : List (Addr × Obj)) (s : Shared) (σ : St) (H : Hp) (x : V) (xs : List V) (v : Value) (us : List Value) (Q : VK), Inv X pins σ H s → RelV x v → Vals xs us → r x xs H Q →
    wpAny (model X.prog X.w) X.A (call (.builtin id) (v :: us)) (EP X pins σ Q) X.xe s
section
variable {X : Cx} {a b : Expr} {ta tb : TE} {pos : Pos}
theorem IxR.or {r r' : R2} (h : IxR X r) (h' : IxR X r') : IxR X (fun x y H Q => r x y H Q ∨ r' x y H Q) := by
  intro value slice pins s σ H x y v u Q I rx ry q hs
  rcases q with q | q
  · exact h value slice pins s σ H x y v u Q I rx ry q hs
  · exact h' value slice pins s σ H x y v u Q I rx ry q hs
theorem MtR.or {id : String} {r r' : V → List V → Hp → VK → Prop} (h : MtR X id r) (h' : MtR X id r') : MtR X id (fun x xs H Q => r x xs H Q ∨ r' x xs H Q) := by
  intro pins s σ H x xs v us Q I rx rs q
  rcases q with q | q
  · exact h pins s σ H x xs v us Q I rx rs q
  · exact h' pins s σ H x xs v us Q I rx rs q
theorem pe_ix {r : R2} (hr : IxR X r) (ha : PE X a ta) (hb : PE X b tb) (hs : PlainIx b) : PE X (.Subscript a b pos) (tOp r ta tb) := by
  intro pins s σ H Q I h
  exact Subscript_ (binT ha hb I h fun v u s2 x y H2 I2 rx ry q => hr a b pins s2 σ H2 x y v u Q I2 rx ry q (hs _ _))
def rIxL (K : PySem.W.Frag) : R2 := fun x y H Q => ∃ p xs i v, x = .ref p ∧ y = .int i ∧ SqL K H p xs ∧ atI xs i = some v ∧ Q v H
def rIxT (K : PySem.W.Frag) : R2 := fun x y H Q => ∃ p xs i v, x = .ref p ∧ y = .int i ∧ SqT K H p xs ∧ atI xs i = some v ∧ Q v H
def rIxS : R2 := fun x y H Q => ∃ z i c, x = .str z ∧ y = .int i ∧ z.length ≤ sizeLine ∧ atI z.cps.toList i = some c ∧ Q (.str ⟨#[c]⟩) H
theorem ix_list : IxR X (rIxL X.K) := by
  intro value slice pins s σ H x y v u Q I rx ry h hs
  obtain ⟨p, xs, i, z, rfl, rfl, hq, he, q⟩ := h
  cases rx
  obtain ⟨t, rfl⟩ := ry
  obtain ⟨its, r, pl, hz⟩ := I.list hq
  obtain ⟨j, h1, h2, h3, h4, h5⟩ := atI_get he
  obtain ⟨w, ew, rw'⟩ := r.get h2
  have hl := r.length
  have hn := line63
  have fin : EP X pins σ Q w s := ⟨z, H, I, rw', q⟩
  by_cases h0 : 0 ≤ i
  · have hj : i.toNat = j := by
      rw [seqIndex_of h0 h5] at h1
      exact Option.some.inj h1
    exact item_listR pl.isList h0 (by omega) (by rw [hj]; simpa using ew) fin hs
  · have hj : (i + (its.toArray.size : Int)).toNat = j := by
      rw [seqIndex_neg (by omega) h4] at h1
      rw [List.size_toArray, ← hl]
      exact Option.some.inj h1
    exact subscriptTail_builtinR (x := w) pl.isList.typeIs slot_list_getitem.lookup
      (wpAny_getItem_list_neg (Q := fun r s' => r = w ∧ EP X pins σ Q r s') pl.isList (by omega) (by rw [List.size_toArray] <;> omega) (by omega) (by rw [hj]; simpa using ew) ⟨rfl, fin⟩) hs
theorem ix_tup : IxR X (rIxT X.K) := by
  intro value slice pins s σ H x y v u Q I rx ry h hs
  obtain ⟨p, xs, i, z, rfl, rfl, hq, he, q⟩ := h
  cases rx
  obtain ⟨t, rfl⟩ := ry
  obtain ⟨its, r, pl, hz⟩ := I.tuple hq
  obtain ⟨j, h1, h2, h3, h4, h5⟩ := atI_get he
  obtain ⟨w, ew, rw'⟩ := r.get h2
  have hl := r.length
  have hn := line63
  have fin : EP X pins σ Q w s := ⟨z, H, I, rw', q⟩
  exact subscriptTail_builtinR (x := w) pl.typeIs slot_tuple_getitem.lookup
    (getItem_tuple (j := j) (Q := fun r s' => r = w ∧ EP X pins σ Q r s') pl (by omega) (by omega) (by rw [List.size_toArray, ← hl]; exact h1) (by simpa using ew) ⟨rfl, fin⟩) hs
theorem ix_str : IxR X rIxS := by
  intro value slice pins s σ H x y v u Q I rx ry h hs
  obtain ⟨z, i, c, rfl, rfl, hz, he, q⟩ := h
  obtain ⟨t, rfl⟩ := rx
  obtain ⟨t', rfl⟩ := ry
  obtain ⟨j, h1, h2, h3, h4, h5⟩ := atI_get he
  have hl : z.cps.toList.length = z.length := by simp [Str.length]
  rw [hl] at h1 h4 h5
  have hn := line63
  exact tail_any (typeIs_str s z t) slot_str_getitem.lookup (getItem_str (c := c) (by
    have e1 : decide (i < -(2 ^ 63 : Int)) = false := decide_eq_false (by omega)
    have e2 : decide (i ≥ 2 ^ 63) = false := decide_eq_false (by omega)
    rw [e1, e2, Bool.or_false]) (by rw [h1]; simpa using h2) ⟨.str ⟨#[c]⟩, H, I.tok _, ⟨_, rfl⟩, q⟩) hs
theorem Inv.lst {pins : List (Addr × Obj)} {σ : St} {H : Hp} {s : Shared} {p : Addr} {xs : List V} (I : Inv X pins σ H s) (h : H p = some (.lst xs)) :
    ∃ (its : List Value) (n : Nat), Vals xs its ∧ s.heap.get? p = some { cls := .type "list", data := .seq its.toArray n } ∧ xs.length ≤ sizeLine := by
  obtain ⟨z, its, n, r, e⟩ := I.hok p _ h
  exact ⟨its, n, r, e, z⟩
def flatV : V → Bool
  | .non => true
  | .bl _ => true
  | .int _ => true
  | .str _ => true
  | _ => false
def eqV : V → V → Bool
  | .non, .non => true
  | .bl a, .bl b => a == b
  | .bl a, .int b => (if a then 1 else 0) == b
  | .int a, .bl b => a == (if b then 1 else 0)
  | .int a, .int b => a == b
  | .str a, .str b => a == b
  | _, _ => false
theorem eqAt_V {A : Around} {s : Shared} {y x : V} {u v : Value} (ry : RelV y u) (rx : RelV x v) (fy : flatV y = true) (fx : flatV x = true) : SeqAt.EqAt A s u v (eqV y x) := by
  cases y with
  | non =>
    cases ry
    cases x with
    | non => cases rx; exact SeqAt.EqAt.same _
    | bl b => cases rx; exact SeqAt.EqAt.none_bool b
    | int b => obtain ⟨t, rfl⟩ := rx; exact SeqAt.EqAt.none_int b t
    | str b => obtain ⟨t, rfl⟩ := rx; exact SeqAt.EqAt.none_str b t
    | _ => exact absurd (show false = true from fx) Bool.false_ne_true
  | bl a =>
    cases ry
    cases x with
    | non => cases rx; exact SeqAt.EqAt.bool_none a
    | bl b => cases rx; exact SeqAt.EqAt.bool_bool a b
    | int b => obtain ⟨t, rfl⟩ := rx; exact SeqAt.EqAt.bool_int a b t
    | str b => obtain ⟨t, rfl⟩ := rx; exact SeqAt.EqAt.bool_str a b t
    | _ => exact absurd (show false = true from fx) Bool.false_ne_true
  | int a =>
    obtain ⟨t', rfl⟩ := ry
    cases x with
    | non => cases rx; exact SeqAt.EqAt.int_none a t'
    | bl b => cases rx; exact SeqAt.EqAt.int_bool a t' b
    | int b => obtain ⟨t, rfl⟩ := rx; exact SeqAt.EqAt.int_int a t' b t
    | str b => obtain ⟨t, rfl⟩ := rx; exact SeqAt.EqAt.int_str a t' b t
    | _ => exact absurd (show false = true from fx) Bool.false_ne_true
  | str a =>
    obtain ⟨t', rfl⟩ := ry
    cases x with
    | non => cases rx; exact SeqAt.EqAt.str_none a t'
    | bl b => cases rx; exact SeqAt.EqAt.str_bool a t' b
    | int b => obtain ⟨t, rfl⟩ := rx; exact SeqAt.EqAt.str_int a t' b t
    | str b => obtain ⟨t, rfl⟩ := rx; exact SeqAt.EqAt.str_str a t' b t
    | _ => exact absurd (show false = true from fx) Bool.false_ne_true
  | _ => exact absurd (show false = true from fy) Bool.false_ne_true
def eqU (x : V) (u : Value) : Bool := match u with
  | .none => eqV .non x
  | .bool b => eqV (.bl b) x
  | .int i _ => eqV (.int i) x
  | .str z _ => eqV (.str z) x
  | _ => false
theorem eqU_of {x y : V} {u : Value} (r : RelV y u) (f : flatV y = true) : eqU x u = eqV y x := by
  cases y with
  | non => cases r; rfl
  | bl b => cases r; rfl
  | int i => obtain ⟨t, rfl⟩ := r; rfl
  | str z => obtain ⟨t, rfl⟩ := r; rfl
  | _ => exact absurd (show false = true from f) Bool.false_ne_true
theorem any_eqU {x : V} : ∀ {xs : List V} {us : List Value}, Vals xs us → xs.all flatV = true → us.any (eqU x) = xs.any fun y => eqV y x
  | _, _, .nil, _ => rfl
  | y :: xs, u :: us, .cons r t, f => by
    rw [List.all_cons, Bool.and_eq_true] at f
    rw [List.any_cons, List.any_cons, eqU_of r f.1, any_eqU t f.2]
theorem mem_eqAt {A : Around} {s : Shared} {x : V} {v : Value} (rx : RelV x v) (fx : flatV x = true) : ∀ {xs : List V} {us : List Value}, Vals xs us → xs.all flatV = true → ∀ u ∈ us, SeqAt.EqAt A s u v (eqU x u)
  | _, _, .nil, _ => fun u hu => by cases hu
  | y :: xs, u :: us, .cons r t, f => fun u' hu => by
    rw [List.all_cons, Bool.and_eq_true] at f
    rcases List.mem_cons.mp hu with rfl | hu
    · rw [eqU_of r f.1]; exact eqAt_V r rx f.1 fx
    · exact mem_eqAt rx fx t f.2 u' hu
def inV (x : V) (xs : List V) : Bool := xs.any fun y => eqV y x
def rIn (K : PySem.W.Frag) (neg : Bool) : R2 := fun x y H Q => ∃ p xs, y = .ref p ∧ (SqL K H p xs ∨ SqT K H p xs) ∧ flatV x = true ∧ xs.all flatV = true ∧ Q (.bl (if neg then !inV x xs else inV x xs)) H
theorem op_in_seq : OpR X (compareOp .In) (rIn X.K false) := by
  intro pins s σ H x y v u Q I rx ry h
  obtain ⟨p, xs, rfl, hq, fx, fs, q⟩ := h
  cases ry
  rcases hq with hq | hq
  · obtain ⟨its, r, pl, hz⟩ := I.list hq
    refine SeqAt.in_listAt (eqU x) pl.isList (fun w hw => mem_eqAt rx fx r fs w (by simpa using hw)) ⟨.bl _, H, I, rfl, ?_⟩
    rw [show its.toArray.any (eqU x) = its.any (eqU x) by simp, any_eqU r fs]
    exact q
  · obtain ⟨its, r, pl, hz⟩ := I.tuple hq
    refine SeqAt.in_tupleAt (eqU x) pl (fun w hw => mem_eqAt rx fx r fs w (by simpa using hw)) ⟨.bl _, H, I, rfl, ?_⟩
    rw [show its.toArray.any (eqU x) = its.any (eqU x) by simp, any_eqU r fs]
    exact q
theorem call_len_seq : CallR X (.builtin "len") (fun xs H Q => ∃ p ys, xs = [.ref p] ∧ (SqL X.K H p ys ∨ SqT X.K H p ys) ∧ Q (.int ys.length) H) := by
  intro pins s σ H xs us Q I r h
  obtain ⟨p, ys, rfl, hq, q⟩ := h
  obtain ⟨u, rfl, rx⟩ := vals1 r
  cases rx
  have hn := line63
  rcases hq with hq | hq
  · obtain ⟨its, r', pl, hz⟩ := I.list hq
    have hlen := r'.length
    exact Calls.call_len_list pl.isList (by simp only [List.size_toArray] <;> omega) ⟨.int ys.length, H, I.tok _, ⟨s.toks + 1, by rw [List.size_toArray, hlen]⟩, q⟩
  · obtain ⟨its, r', pl, hz⟩ := I.tuple hq
    have hlen := r'.length
    exact len_tuple pl (by simp only [List.size_toArray] <;> omega) ⟨.int ys.length, H, I.tok _, ⟨s.toks + 1, by rw [List.size_toArray, hlen]⟩, q⟩
theorem call_len_str : CallR X (.builtin "len") (fun xs H Q => ∃ z, xs = [.str z] ∧ z.length ≤ sizeLine ∧ Q (.int z.length) H) := by
  intro pins s σ H xs us Q I r h
  obtain ⟨z, rfl, hz, q⟩ := h
  obtain ⟨u, rfl, t, rfl⟩ := vals1 r
  have hn := line63
  exact len_str (by omega) ⟨.int z.length, H, I.tok _, ⟨_, rfl⟩, q⟩
theorem CallR.or {f : Value} {r r' : List V → Hp → VK → Prop} (h : CallR X f r) (h' : CallR X f r') : CallR X f (fun xs H Q => r xs H Q ∨ r' xs H Q) := by
  intro pins s σ H xs us Q I rs q
  rcases q with q | q
  · exact h pins s σ H xs us Q I rs q
  · exact h' pins s σ H xs us Q I rs q
theorem call_list_of : CallR X (.type "list") (fun xs H Q => ∃ p ys, xs = [.ref p] ∧ (SqL X.K H p ys ∨ SqT X.K H p ys) ∧ ∀ l, H l = none → Q (.ref l) (upd H l (.lst ys))) := by
  intro pins s σ H xs us Q I r h
  obtain ⟨p, ys, rfl, hq, q⟩ := h
  obtain ⟨u, rfl, rx⟩ := vals1 r
  cases rx
  have fin : ∀ (its : List Value), Vals ys its → ys.length ≤ sizeLine → ∀ (h' : Heap) (c' : Nat), (∀ b o', s.heap.get? b = some o' → h'.get? b = some o') →
      h'.get? s.heap.objs.size = some { cls := .type "list", dict := none, data := .seq its.toArray c', slots := #[] } → EP X pins σ Q (.ref s.heap.objs.size) { s with heap := h' } := fun its r' hz h' c' kp e =>
    ⟨.ref s.heap.objs.size, _, I.laid (t' := s.toks) kp (Nat.le_refl _) (show ObjOk X.prog X.w _ h' _ (.lst ys) from ⟨hz, its, c', r', e⟩), rfl, q _ (I.hok.fresh (Nat.le_refl _))⟩
  rcases hq with hq | hq
  · obtain ⟨its, r', pl, hz⟩ := I.list hq
    have hlen := r'.length
    obtain ⟨o, ho, hc, n, hd⟩ := pl.isList
    exact call_list_seq p (.inl rfl) ho hc hd (fun h' c' kp e => fin its r' hz h' c' kp e) (by simp only [List.size_toArray] <;> omega)
  · obtain ⟨its, r', pl, hz⟩ := I.tuple hq
    have hlen := r'.length
    obtain ⟨o, ho, hc, n, hd⟩ := pl
    exact call_list_seq p (.inr rfl) ho hc hd (fun h' c' kp e => fin its r' hz h' c' kp e) (by simp only [List.size_toArray] <;> omega)
def tyV (K : PySem.W.Frag) (T : String) (x : V) (H : Hp) : Prop := match x with
  | .str _ => T = "str"
  | .int _ => T = "int"
  | .ref p => (T = "list" ∧ ∃ xs, SqL K H p xs) ∨ (T = "tuple" ∧ ∃ o, K.lookup p = some o ∧ o.cls = .type "tuple" ∧ o.dict = none) ∨
      (T = "dict" ∧ ((∃ kvs, H p = some (.dK kvs)) ∨ ∃ kvs, H p = some (.dT kvs))) ∨ (T = "set" ∧ ∃ S n, H p = some (.set S n))
  | _ => False
theorem tyV_is {pins : List (Addr × Obj)} {σ : St} {H : Hp} {s : Shared} {T : String} {x : V} {v : Value} (I : Inv X pins σ H s) (r : RelV x v) (ty : tyV X.K T x H) :
    s.TypeIs v T ∧ ∀ a, v = .ref a → ∃ ob, s.heap.get? a = some ob ∧ ob.dict = none := by
  cases x with
  | str z =>
    obtain ⟨t, rfl⟩ := r
    cases (show T = "str" from ty)
    exact ⟨typeIs_str s z t, fun _ e => nomatch e⟩
  | int i =>
    obtain ⟨t, rfl⟩ := r
    cases (show T = "int" from ty)
    exact ⟨typeIs_int s i t, fun _ e => nomatch e⟩
  | ref p =>
    cases r
    rcases ty with ⟨rfl, xs, hq⟩ | ⟨rfl, o, hk, hc, hd⟩ | ⟨rfl, hk⟩ | ⟨rfl, S, n, hk⟩
    · obtain ⟨its, _, pl, _⟩ := I.list hq
      refine ⟨pl.isList.typeIs, fun a e => ?_⟩
      cases e
      obtain ⟨o, n, e, c, hd, _⟩ := pl
      exact ⟨o, e, hd⟩
    · refine ⟨⟨o, I.kIn p o hk, hc⟩, fun a e => ?_⟩
      cases e
      exact ⟨o, I.kIn _ o hk, hd⟩
    · have z : ∃ o, s.heap.get? p = some o ∧ o.ExactDict := by
        rcases hk with ⟨kvs, hk⟩ | ⟨kvs, hk⟩
        · obtain ⟨_, _, _, _, o, _, _, e, ex, _⟩ := I.hok p _ hk
          exact ⟨o, e, ex⟩
        · obtain ⟨_, _, _, _, o, _, _, e, ex, _⟩ := I.hok p _ hk
          exact ⟨o, e, ex⟩
      obtain ⟨o, e, ex⟩ := z
      refine ⟨⟨o, e, ex.1⟩, fun a e2 => ?_⟩
      cases e2
      exact ⟨o, e, ex.2.1⟩
    · obtain ⟨o, _, _, _, e, ex, _⟩ := I.hok p _ hk
      refine ⟨⟨o, e, ex.1⟩, fun a e2 => ?_⟩
      cases e2
      exact ⟨o, e, ex.2.1⟩
  | _ => exact False.elim ty
def tBM0 (K : PySem.W.Frag) (T : String) (r : V → List V → Hp → VK → Prop) (to : TE) : TE := fun σ H Q => to σ H fun x H1 => tyV K T x H1 ∧ r x [] H1 Q
def tBM (K : PySem.W.Frag) (T : String) (r : V → List V → Hp → VK → Prop) (to : TE) (t : TA) : TE := fun σ H Q => to σ H fun x H1 => tyV K T x H1 ∧ t σ H1 fun xs H2 => r x xs H2 Q
variable {o e : Expr} {es : List Expr} {to : TE} {t : TA} {name : Str} {apos cpos : Pos} {T id : String} {r : V → List V → Hp → VK → Prop}
theorem pe_bm0 (pa : PlainAttrs T) (slot : Slot T name id) (hty : typeOf (.builtin id) = pure (.type "method_descriptor")) (hm : MtR X id r) (ho : PE X o to)
    (hbase : attributeBase o name X.env (eval o X.env) = eval o X.env := by rfl) (hline : (apos.endLine == cpos.line) = true := by rfl) : PE X (.Call (.Attribute o name apos) [] [] cpos) (tBM0 X.K T r to) := by
  intro pins s σ H Q I h
  refine wpAny_Call_method0_late hbase hline (thn (ho pins s σ H _ I h) fun v s1 ⟨x, H1, I1, r1, ty, q1⟩ => ?_)
  obtain ⟨h1, h2⟩ := tyV_is I1 r1 ty
  exact ⟨T, id, pa, slot, hty, h1, h2, Calls.callWith_builtin rfl (PySem.evalArgs_none (hm pins s1 σ H1 x [] v [] Q I1 r1 .nil q1))⟩
theorem pe_bm (pa : PlainAttrs T) (slot : Slot T name id) (hty : typeOf (.builtin id) = pure (.type "method_descriptor")) (hm : MtR X id r) (ho : PE X o to) (ha : PA X (e :: es) t)
    (hbase : attributeBase o name X.env (eval o X.env) = eval o X.env := by rfl)
    (hfew : ((backTo cpos (starEach (e :: es) X.env)).all (fun x => !x.1) && (backToKw cpos (keywordEach [] X.env)).all (fun x => x.1.isSome)
      && decide ((e :: es).length + ([] : List Keyword).length + (if ([] : List Keyword).isEmpty then 0 else 1) < 30)) = true := by rfl)
    (hline : (apos.endLine == cpos.line) = true := by rfl) (hs : starEach (e :: es) X.env = (false, eval e X.env) :: starEach es X.env := by rfl) (hplain : (backTo cpos (starEach es X.env)).any (·.1) = false := by rfl) :
    PE X (.Call (.Attribute o name apos) (e :: es) [] cpos) (tBM X.K T r to t) := by
  intro pins s σ H Q I h
  refine wpAny_Call_method_late hbase hfew hline rfl (thn (ho pins s σ H _ I h) fun v s1 ⟨x, H1, I1, r1, ty, q1⟩ => ?_)
  obtain ⟨h1, h2⟩ := tyV_is I1 r1 ty
  refine ⟨T, id, pa, slot, hty, h1, h2, ?_⟩
  have hA := ha cpos pins s1 σ H1 _ I1 q1
  rw [hs] at hA ⊢
  refine Calls.callWith_builtin (by show (false || (backTo cpos (starEach es X.env)).any (·.1)) = false; rw [hplain] <;> rfl) (Calls.evalArgs_plain ?_)
  exact thn hA fun us s2 ⟨vs, H2, I2, r2, q2⟩ => hm pins s2 σ H2 x vs v us Q I2 r1 r2 q2
/- xs.append(e), list.index on a module's tuple .. are MtR facts of 06m -/
end
end L2
namespace L2
open PySem PySem.Spec PyProof.Rows
def MtM (X : Cx) (id : String) (r : V → List V → Hp → VK → Prop) : Prop :=
  ∀ (pins : List (Addr × Obj)) (s : Shared) (σ : St) (H : Hp) (x : V) (xs : List V) (v : Value) (us : List Value) (Q : VK), Inv X pins σ H s → RelV x v → Vals xs us → r x xs H Q →
    wpAny (model X.prog X.w) X.A (call (.builtin id) (v :: us)) (EP X pins σ Q) X.xe s
theorem Vals.one : ∀ {x : V} {us : List Value}, Vals [x] us → ∃ u, us = [u] ∧ RelV x u
  | _, _, .cons r .nil => ⟨_, rfl, r⟩
theorem Vals.two : ∀ {x y : V} {us : List Value}, Vals [x, y] us → ∃ u v, us = [u, v] ∧ RelV x u ∧ RelV y v
  | _, _, _, .cons r (.cons q .nil) => ⟨_, _, rfl, r, q⟩
theorem Vals.zero : ∀ {us : List Value}, Vals [] us → us = []
  | _, .nil => rfl
theorem Vals.eraseIdx : ∀ {xs : List V} {us : List Value} (i : Nat), Vals xs us → Vals (xs.eraseIdx i) (us.eraseIdx i)
  | _, _, _, .nil => .nil
  | _, _, 0, .cons _ t => t
  | _, _, i + 1, .cons r t => .cons r (Vals.eraseIdx i t)
theorem Vals.reverse {xs : List V} {us : List Value} (h : Vals xs us) : Vals xs.reverse us.reverse := by
  induction h with
  | nil => exact .nil
  | cons r t ih => rw [List.reverse_cons, List.reverse_cons]; exact Vals.append ih (.cons r .nil)
section
variable {X : Cx} {pins : List (Addr × Obj)} {σ : St} {H : Hp} {s : Shared} {l b : Addr} {xs ys zs : List V}
theorem Inv.lset {its its' : List Value} {n : Nat} {f : Array Value → Array Value} {t' : Nat} (I : Inv X pins σ H s) (hH : H l = some (.lst xs))
    (e : s.heap.get? l = some { cls := .type "list", data := .seq its.toArray n }) (hf : f its.toArray = its'.toArray) (hv : Vals ys its') (hz : ys.length ≤ sizeLine) :
    Inv X pins σ (upd H l (.lst ys)) { s with heap := s.heap.update l (Obj.mapSeq f), toks := t' } := by
  have q := PySem.IsL.update e f
  rw [hf] at q
  refine I.write (x := l) (e := l) (by rw [hH]; exact trivial) (.inl rfl) (fun b' u hb hu => (Heap.get?_update_other s.heap (Obj.mapSeq f) (Ne.symm hb)).trans hu) ⟨_, q⟩ ?_
  exact ⟨hz, its', _, hv, q⟩
theorem Inv.lnew {its : List Value} {t' : Nat} (I : Inv X pins σ H s) (hv : Vals ys its) (hz : ys.length ≤ sizeLine) :
    Inv X pins σ (upd H s.heap.objs.size (.lst ys)) { s with heap := s.heap.push { cls := .type "list", data := .seq its.toArray }, toks := t' } :=
  I.laid (fun _ _ q => Heap.get?_push_of_some _ q) (Nat.le_refl _) ⟨hz, its, 0, hv, Heap.get?_push_size _ rfl⟩
theorem Inv.fresh (I : Inv X pins σ H s) : H s.heap.objs.size = none := I.hok.fresh (Nat.le_refl _)
theorem Inv.lstM (I : Inv X pins σ H s) (hH : H l = some (.lst xs)) : xs.length ≤ sizeLine ∧ ∃ (its : List Value) (n : Nat), Vals xs its ∧ xs.length = its.length ∧ s.heap.get? l = some { cls := .type "list", data := .seq its.toArray n } := by
  obtain ⟨z, its, n, r, e⟩ := I.hok l _ hH
  exact ⟨z, its, n, r, r.length, e⟩
end
section
variable {X : Cx}
def rAppend : V → List V → Hp → VK → Prop := fun x vs H Q => ∃ l xs y, x = .ref l ∧ vs = [y] ∧ H l = some (.lst xs) ∧ xs.length < sizeLine ∧ Q .non (upd H l (.lst (xs ++ [y])))
theorem mt_append : MtM X "list.append" rAppend := by
  intro pins s σ H x vs v us Q I rx rv h
  obtain ⟨l, xs, y, rfl, rfl, hH, hz, q⟩ := h
  cases rx
  obtain ⟨u, rfl, ru⟩ := rv.one
  obtain ⟨z, its, n, r, hl, e⟩ := I.lstM hH
  refine call_meets F.slot_list_append ⟨_, e, rfl⟩ F.entry_list_append (F.args_list_append_2 _ _) (PySem.list_append l its.toArray n u (by rw [List.size_toArray]; omega)) ⟨e, ?_⟩
  refine ⟨.non, _, I.lset (its' := its ++ [u]) hH e (by simp) (r.append (.cons ru .nil)) ?_, rfl, q⟩
  rw [List.length_append, List.length_singleton]
  omega
def rClear : V → List V → Hp → VK → Prop := fun x vs H Q => ∃ l xs, x = .ref l ∧ vs = [] ∧ H l = some (.lst xs) ∧ Q .non (upd H l (.lst []))
theorem mt_clear : MtM X "list.clear" rClear := by
  intro pins s σ H x vs v us Q I rx rv h
  obtain ⟨l, xs, rfl, rfl, hH, q⟩ := h
  cases rx
  have hus := rv.zero
  subst hus
  obtain ⟨z, its, n, r, hl, e⟩ := I.lstM hH
  refine call_meets F.slot_list_clear ⟨_, e, rfl⟩ F.entry_list_clear (F.args_list_clear_1 _) (AutoSeq1.list_clear_list_0 l its.toArray n (by rw [List.size_toArray]; omega)) ⟨e, ?_⟩
  exact ⟨.non, _, I.lset (its' := []) (ys := []) hH e rfl .nil (Nat.zero_le _), rfl, q⟩
def rCat : R2 := fun x y H Q => ∃ l b xs zs, x = .ref l ∧ y = .ref b ∧ H l = some (.lst xs) ∧ H b = some (.lst zs) ∧ xs.length + zs.length ≤ sizeLine ∧ ∀ p, H p = none → Q (.ref p) (upd H p (.lst (xs ++ zs)))
theorem op_cat : OpR X (binaryOp .Add) rCat := by
  intro pins s σ H x y v u Q I rx ry h
  obtain ⟨l, b, xs, zs, rfl, rfl, hH, hB, hz, q⟩ := h
  cases rx
  cases ry
  obtain ⟨z, its, n, r, hl, e⟩ := I.lstM hH
  obtain ⟨z2, its2, n2, r2, hl2, e2⟩ := I.lstM hB
  refine PySem.P.add_list e e2 ?_ (by rw [List.size_toArray, List.size_toArray]; omega)
  have ea : its.toArray ++ its2.toArray = (its ++ its2).toArray := by simp
  rw [ea]
  exact ⟨.ref _, _, I.lnew (t' := s.toks) (r.append r2) (by rw [List.length_append]; omega), rfl, q _ I.fresh⟩
end
section
variable {prog : Program} {w : World} {A : Around} {E : Value → Shared → Prop} {s : Shared}
end
section
variable {X : Cx}
end
end L2
namespace Att
open PySem PySem.W PySem.Calls PyProof.Rows
theorem ints_of_wellAll {P : Params} {h : Heap} : ∀ (ns : List Int) (vs : List Value), WellAll P h vs (ns.map WData.int) → IntsAre vs ns := by
  intro ns
  induction ns with
  | nil =>
    intro vs w
    rw [List.map_nil] at w
    cases w
    exact .nil
  | cons n ns ih =>
    intro vs w
    rw [List.map_cons] at w
    cases w with
    | cons a b =>
      cases a
      exact .cons _ _ (ih _ b)
theorem script_of {l : OpenLaw} {n : Nat} (hn : l.most = some n) {P : Params} {h : Heap} {args : List WData} {vals : List Value}
    (hpre : l.row.toRowW.claim.pre args = true) (hwl : WellAll P h vals args) :
    ∃ a vs ns, vals = [Value.ref a] ∧ args = [WData.list (ns.map WData.int)] ∧ h.get? a = some { cls := .type "list", data := .seq vs.toArray } ∧ IntsAre vs ns ∧ ns.length ≤ n := by
  have hsh : WShape.hasAll [] args [.list .int] = true := (pre_splitW hpre).1
  have hc : l.pre.holds [] { args := args } = true := (pre_splitW hpre).2
  obtain ⟨d, r, rfl, h1, h2⟩ := hasAllW_cons hsh
  obtain rfl := hasAllW_nil h2
  obtain ⟨xs, rfl, h3⟩ := hasW_list h1
  obtain ⟨ns, rfl⟩ := items_int h3
  have hlen : ns.length ≤ n := by
    unfold OpenLaw.pre at hc
    have h4 : (WTm.not (.lt (.lit (.int (n : Int))) (.len (.arg 0)))).holds [] { args := [.list (ns.map .int)] } = true := by
      have h4 := (holds_andW hc).1
      rw [hn] at h4
      exact h4
    have h5 := condW_of h4 (w_not (w_lt w_lit (w_len_list (w_arg rfl))))
    rw [List.length_map] at h5
    refine Nat.le_of_not_lt fun q => ?_
    have q' : (n : Int) < ((ns.length : Nat) : Int) := by omega
    first
      | (rw [decide_eq_true q'] at h5; exact absurd h5 (by decide))
      | (simp at h5; omega)
  cases hwl with
  | cons w1 w2 =>
    cases w2
    cases w1 with
    | list ho hall => exact ⟨_, _, ns, rfl, rfl, ho, ints_of_wellAll ns _ hall, hlen⟩
theorem post_true (l : OpenLaw) (args : List WData) : l.row.toRowW.claim.post args (.bool true) args = true :=
  postW_of (r := l.row.toRowW) (X := (true == true))
    (show WShape.has [] (.bool true) .bool = true by first | rfl | decide | simp [WShape.has, WShape.arms, WShape.armsAll])
    (show (WTm.eq .res (.lit (.bool true))).value [] { args := args, res := some (.bool true), after := args } = some (.bool (true == true)) from w_eq_bool (w_res rfl) w_lit) rfl
theorem attach_call {l : OpenLaw} {n : Nat} {q : Program} {loose : List Str} {XP : (Str → Option Value) → Heap → Prop} {YP : World → Heap → Prop} {d : DefRec}
    (hn : l.most = some n) (hdf : d.params.defaults = [])
    (call : ∀ (w : World) (s₀ s₁ : Shared) (mg mb : Str → Option Value) (fa : Addr) (o : Obj) (pm cd doc : Value) (a : Addr) (vs : List Value) (ns : List Int),
      Ground q loose [] XP w s₀ mg mb s₁.heap → YP w s₁.heap →
      s₁.heap.get? fa = some o → o.data = .func (docDef d.name d.params d.body d.scope pm cd doc) → s₁.heap.CodeRec cd d.name → mg d.name = some (.ref fa) →
      s₁.heap.get? a = some { cls := .type "list", data := .seq vs.toArray } → IntsAre vs ns → ns.length ≤ n → s₁.gens = #[] →
      codeAny (model l.prog w) callerA (.call (.ref fa) ⟨[.ref a], []⟩) (fun r s' => r = .ok (.ret (.bool true)) ∧ OldK s₁.heap s'.heap ∧ s'.os = s₁.os ∧ AllBare s'.gens) s₁) :
    WalkO q loose XP YP l.row.toRowW d [] (fun f vs => PySem.call f vs) := by
  intro w s₀ s₁ mg mb G Y fa o pm cd doc dV kV ho hd hcd hD hmg hg args vals as hpre hlay hrd hwl hlo
  obtain rfl : dV = .none := Dflts.none hD hdf
  obtain rfl : kV = .none := Dflts.noKw hD
  obtain ⟨a, vs, ns, rfl, rfl, hobj, hints, hlen⟩ := script_of hn hpre hwl
  refine enter_call (codeAny_mono (call w s₀ s₁ mg mb fa o pm cd doc a vs ns G Y ho (fd_plain hd) hcd hmg hobj hints hlen hg) fun r s' hq => ?_)
  obtain ⟨rfl, h2, h3, h4⟩ := hq
  exact ⟨.inl ⟨.bool true, .bool true, [], rfl, fun _ => rfl, .bool true, post_true l _, fun _ => ⟨List.Pairwise.nil, fun _ hm => (nomatch hm)⟩⟩, h2, h3, h4⟩
section
variable {prog : Program} {w : World} {A : Around} {E : Value → Shared → Prop} {s : Shared} {K : Frag}
def ledger (h : Heap) (L d : Addr) : List (Addr × Obj) := (List.range h.objs.size).filterMap fun a => if a = L ∨ a = d then none else (h.get? a).map fun o => (a, o)
end
end Att
namespace L2
open PySem PySem.Spec PyProof.Rows
theorem vals_ints : ∀ {vs : List Value} {ns : List Int}, IntsAre vs ns → Vals (ns.map V.int) vs
  | _, _, .nil => .nil
  | _, _, .cons n t h => .cons ⟨t, rfl⟩ (vals_ints h)
def Only (H : Hp) : Prop := ∀ b, H b = none ∨ ∃ o xs, H b = some (.frz o (.lst xs))
theorem law_call {P : Program} {w : World} {K : PySem.W.Frag} {mg mb : Str → Option Value} {CX : CXT} {k : Nat} {fa a : Addr} {fd : FuncData} {x : Str} {sp : Sp} {s₁ : Shared} {vs : List Value} {ns : List Int}
    (KX : K.In s₁.heap) (hns : s₁.heap.Ns mainGlobals mg) (hb : s₁.heap.Ns builtinsNs mb) (hbb : ∀ x : Str, x ≠ "__name__" → mb x = bootBuiltins x) (hlim : s₁.heap.NoLimit) (hg : s₁.gens = #[])
    (ha : s₁.heap.get? a = some { cls := .type "list", data := .seq vs.toArray }) (hi : IntsAre vs ns) (hl : ns.length ≤ sizeLine) (hr : Room k callerA)
    (F : ∀ base : Heap, K.In base → base.Ns mainGlobals mg → FnOk P w K mg base CX k fa fd [x] sp) (hbind : ∀ (s : Shared) (u : Value), BindsTo s fd ⟨[u], []⟩ [(x, u)])
    (hsp : ∀ H : Hp, Only H → SqL K H a (ns.map V.int) → sp [.ref a] H (fun v _ => v = .bl true) fun _ _ _ => False)
    (hCX : ∀ H e s', CX [] H s₁ (fun _ _ _ => False) e s' → False) :
    codeAny (model P w) callerA (.call (.ref fa) ⟨[.ref a], []⟩) (fun r s' => r = .ok (.ret (.bool true)) ∧ OldK s₁.heap s'.heap ∧ s'.os = s₁.os ∧ AllBare s'.gens) s₁ := by
  have rv := vals_ints hi
  have lenV := hi.length
  have core : ∀ H : Hp, Only H → SqL K H a (ns.map V.int) → HOk P w H s₁.heap → (∀ b, H b ≠ none → b = a) → (H a ≠ none → K.lookup a = none) →
      codeAny (model P w) callerA (.call (.ref fa) ⟨[.ref a], []⟩) (fun r s' => r = .ok (.ret (.bool true)) ∧ OldK s₁.heap s'.heap ∧ s'.os = s₁.os ∧ AllBare s'.gens) s₁ := by
    intro H hO hS hok hA hK
    have base_of : ∀ {b : Addr} {o : Obj}, s₁.heap.get? b = some o → H b = none → (hidT s₁.heap H).get? b = some o := fun e n => hidT_get e n
    have noA : ∀ {b : Addr} {o : Obj} {es : Array DictEntry} {ep : Nat}, s₁.heap.get? b = some o → o.data = .dict es ep → H b = none := fun {b o es ep} e d => by
      cases q : H b with
      | none => rfl
      | some u =>
        have e' : b = a := hA b (by rw [q]; simp)
        subst e'
        rw [ha] at e; cases e
        have d' : Data.seq vs.toArray _ = Data.dict es ep := d
        cases d'
    have nsK : ∀ {b : Addr} {m : Str → Option Value}, s₁.heap.Ns b m → (hidT s₁.heap H).Ns b m := fun {b m} ⟨o, es, ep, e, d, r⟩ => ⟨o, es, ep, base_of e (noA e d), d, r⟩
    have hKb : K.In (hidT s₁.heap H) := fun b o e => base_of (KX b o e) (by
      cases q : H b with
      | none => rfl
      | some u =>
        have e' : b = a := hA b (by rw [q]; simp)
        subst e'
        rw [hK (by rw [q]; simp)] at e; cases e)
    have hM : Mod K mg (hidT s₁.heap H) := ⟨hKb, nsK hns, ⟨mb, nsK hb, hbb⟩, let ⟨mc, h1, h2⟩ := hlim; ⟨mc, nsK h1, h2⟩⟩
    have e0 : Env0 P w K mg (hidT s₁.heap H) callerA [] s₁ H := ⟨rfl, hM, fun b o e => of_hidT e, Nat.le_of_eq (hidT_size _ _), trivial, fun b hb => absurd (show b ∈ ([] : List Addr) from hb) (by simp), hok, .of_eq hg⟩
    refine codeAny_mono ((F _ hKb (nsK hns)).run callerA [] s₁ H ⟨[.ref a], []⟩ [.ref a] [.ref a] _ _ hr e0 (hbind s₁ (.ref a)) (.cons rfl .nil) (hsp H hO hS)) fun r s' h => ?_
    cases r with
    | error e => exact (hCX H e s' h).elim
    | ok fl =>
      cases fl with
      | next => exact False.elim h
      | brk => exact False.elim h
      | cont => exact False.elim h
      | ret u =>
        obtain ⟨v, H', os, bare, un, hok', r', q⟩ := h
        have q' : v = .bl true := q
        subst q'
        obtain rfl : u = Value.bool true := r'
        refine ⟨rfl, OldK.of_keep fun b o e => ?_, os, bare⟩
        cases q : H b with
        | none => exact un.keep b o e q (by intro z; exact absurd (show b ∈ ([] : List Addr) from z) (by simp)) (by simp)
        | some u =>
          rcases hO b with z | ⟨ob, xs, z⟩
          · rw [q] at z; cases z
          · have z2 := un.frzs b ob _ z
            obtain ⟨e1, _⟩ := hok b _ z
            obtain ⟨e2, _⟩ := hok' b _ z2
            rw [e] at e1; cases e1
            exact e2
  cases hk : K.lookup a with
  | some o =>
    have e := KX a o hk
    rw [ha] at e
    cases e
    refine core (fun _ => none) (fun _ => .inl rfl) (.inr ⟨_, vs.toArray, _, hk, rfl, rfl, rfl, by rw [List.size_toArray, lenV]; exact hl, by simpa using rv⟩) (fun b u z => by have z' : (none : Option HO) = some u := z; cases z') (fun b z => absurd rfl z) fun z => absurd rfl z
  | none =>
    refine core (fun b => if b = a then some (.frz { cls := .type "list", data := .seq vs.toArray } (.lst (ns.map V.int))) else none) (fun b => ?_) (.inl (.inr ⟨{ cls := .type "list", data := .seq vs.toArray }, if_pos rfl⟩)) (fun b u z => ?_) (fun b z => ?_) fun _ => hk
    · by_cases hb : b = a
      · exact .inr ⟨_, _, if_pos hb⟩
      · exact .inl (if_neg hb)
    · by_cases hb : b = a
      · have z' := (if_pos hb).symm.trans z
        cases z'
        subst hb
        exact ⟨ha, by rw [List.length_map]; exact hl, vs, _, rv, ha⟩
      · have z' := (if_neg hb).symm.trans z
        cases z'
    · by_cases hb : b = a
      · exact hb
      · exact absurd (if_neg hb) z
end L2
namespace L2
open PySem PySem.Spec PyProof.Rows
abbrev KOf {K : PySem.W.Frag} {h : Heap} (_ : K.In h) : PySem.W.Frag := K
theorem walk_of {l : PySem.W.OpenLaw} {n k : Nat} {q : Program} {loose : List Str} {XP : (Str → Option Value) → Heap → Prop} {YP : World → Heap → Prop} {d : DefRec} {K : Params → PySem.W.Frag} {CX : World → CXT} {sp : World → Sp} {x : Str}
    (hn : l.most = some n) (hn2 : n ≤ sizeLine) (hdf : d.params.defaults = []) (hr : Room k callerA)
    (hY : ∀ (w : World) (h : Heap), YP w h → (K w.params).In h)
    (F : ∀ (w : World) (mg : Str → Option Value) (fa : Addr) (h : Heap), (K w.params).In h → h.Ns mainGlobals mg → mg d.name = some (.ref fa) →
      ∃ fd : FuncData, (∀ (s : Shared) (u : Value), BindsTo s fd ⟨[u], []⟩ [(x, u)]) ∧
        ∀ base : Heap, (K w.params).In base → base.Ns mainGlobals mg → FnOk l.prog w (K w.params) mg base (CX w) k fa fd [x] (sp w))
    (hsp : ∀ (w : World) (H : Hp) (a : Addr) (ns : List Int), ns.length ≤ n → Only H → SqL (K w.params) H a (ns.map V.int) → sp w [.ref a] H (fun v _ => v = .bl true) fun _ _ _ => False)
    (hCX : ∀ (w : World) (H : Hp) (s : Shared) (e : Value) (s' : Shared), CX w [] H s (fun _ _ _ => False) e s' → False) :
    PySem.W.WalkO q loose XP YP l.row.toRowW d [] (fun f vs => PySem.call f vs) := by
  refine Att.attach_call hn hdf fun w s₀ s₁ mg mb fa o pm cd doc a vs ns G Y ho hd hcd hmg hobj hints hlen hg => ?_
  have KX := hY w _ Y
  obtain ⟨fd, hb, hF⟩ := F w mg fa _ KX G.T.g hmg
  exact law_call KX G.T.g G.T.b G.T.builtins G.T.nolimit hg hobj hints (Nat.le_trans hlen hn2) hr hF hb (fun H hO hS => hsp w H a ns hlen hO hS) fun H e s' => hCX w H s₁ e s'
end L2
/- THE LAST THEOREM (shape; LID, My.* are yours):
   My.Adr: a structure of the addresses that your layer names (classes, functions); My.Txt K t: a structure (Prop) of the equations over K;
   My.txt_mk : {K} {implicit addresses ..} (e1 : nsIn K mainGlobals "law" = some (some (.ref f))) (e2 : K.lookup f = some ⟨oc, od, .func (fnOf "law" "law" params body scope dV kV doc pm an cdv ct), sl⟩) (e3 : codeIn K cdv "law" = true) .. : ∃ t, My.Txt K t
set_option maxRecDepth 100000 in
set_option maxHeartbeats 0 in
theorem PySem.Challenge.cw_LID_holds : PySem.Challenge.rw_LID.Holds := by
  w_on; o_law; k_head; (case hw => w_witness2)
  k_fill
  refine L2.walk_of (l := PySem.Challenge.rw_LID) (n := 63) (k := 40) (x := "script") (CX := fun w => ..) (sp := fun _ => My.sp_law) rfl (by decide) rfl ⟨rfl, by decide, by decide⟩ (fun w h Y => PySem.W.kIn_of Y) ?F ?S ?C
  case F =>
    intro w mg fa h KX G hmg
    have T : ∃ t, My.Txt (L2.KOf KX) t := by
      dsimp only [L2.KOf]                          -- K must stand as «<heap const> w.params» for k_is
      refine' My.txt_mk ?e1 ?e2 ?e3 ..
      (case e1 => PySem.W.k_is)                    -- in the order: a name -> its address -> its object -> its parts
      (case e2 => PySem.W.k_is)
      ..
    obtain ⟨t, T⟩ := T
    have e0 := hmg.symm.trans (PySem.W.mg_of KX G T.law)
    cases e0                                       -- fa is the law's own address
    exact ⟨_, fun s u => .of_eq rfl, fun base kb nb => My.law_fn T kb nb⟩     -- if «.of_eq rfl» comes too early: refine' ⟨_, ?b, fun base kb nb => My.law_fn T kb nb⟩; exact fun s u => .of_eq rfl
  case S => exact fun w H a ns hl hO hS => ..
  case C => exact ..
(the tactic k_is has no namespace: write k_is) -/
namespace L2
open PySem PySem.Spec PyProof.Rows
def defArgs (s : Stmt) : Arguments := match s with
  | .FunctionDef _ a _ _ _ _ _ _ _ _ => a
  | _ => { posonlyargs := [], args := [], vararg := none, kwonlyargs := [], kw_defaults := [], kwarg := none, defaults := [] }
def defBody (s : Stmt) : List Stmt := match s with
  | .FunctionDef _ _ b _ _ _ _ _ _ _ => b
  | _ => []
def defScope (s : Stmt) : Scope := match s with
  | .FunctionDef _ _ _ _ _ _ sc _ _ _ => sc
  | _ => { kind := .function, names := [], isGenerator := false, isCoroutine := false }
abbrev CX0 : CXT := fun _ _ _ _ _ _ => False
abbrev E0 : XK := fun _ _ _ => False
theorem pass0 {X : Cx} : Passes CX0 X E0 := fun _ _ _ _ _ _ _ h => h.elim
structure Fun (K : PySem.W.Frag) (x qual : Str) (st : Stmt) (f : Addr) (fd : FuncData) : Prop where
  ex : ∃ (oc : Value) (od : Option Addr) (kV doc pm : Value) (an : Option Addr) (cdv ct : Value) (osl : Array (Option Value)),
    fd = PySem.W.fnOf x qual (defArgs st) (defBody st) (defScope st) .none kV doc pm an cdv ct ∧ K.lookup f = some ⟨oc, od, .func fd, osl⟩ ∧ PySem.W.codeIn K cdv qual = true
  kp : PySem.W.keepIn K (.ref f) = true
section
variable {P : Program} {w : World} {K : PySem.W.Frag} {mg : Str → Option Value} {base : Heap}
theorem Fun.ok {x qual : Str} {st : Stmt} {f : Addr} {fd : FuncData} {N ps : List Str} {k : Nat} {sp : Sp} (F : Fun K x qual st f fd) (S : FnScope N ps (defScope st)) (len : ∀ vs H Q E, sp vs H Q E → vs.length = ps.length)
    (hbody : ∀ (cdv : Value) (A : Around) (outer : List Env) (s : Shared) (H : Hp) (vs : List V) (Q : VK) (E : XK), Room k (A.deeper (envOfC qual (defScope st) s.heap.objs.size f cdv)) → sp vs H Q E →
      ∃ t, PSs (cxOf CX0 P w K mg base N qual (defScope st) f cdv A outer s H E).nox (defBody st) t ∧ t { nx := fun _ H' => Q .non H', rt := Q } (start N vs) H) : FnOk P w K mg base CX0 (k + 1) f fd ps sp := by
  obtain ⟨oc, od, kV, doc, pm, an, cdv, ct, osl, rfl, lk, hcd⟩ := F.ex
  refine fn_of lk hcd S len fun A outer s H vs Q E hr hsp => ?_
  obtain ⟨t, h, q⟩ := hbody cdv A outer s H vs Q E hr hsp
  exact ⟨t, h.nox, q⟩
theorem Fun.binds {x qual : Str} {st : Stmt} {f : Addr} {fd : FuncData} {ps : List Str} (F : Fun K x qual st f fd)
    (h : ∀ (kV doc pm : Value) (an : Option Addr) (cdv ct : Value) (us : List Value), us.length = ps.length → bindArgs (PySem.W.fnOf x qual (defArgs st) (defBody st) (defScope st) .none kV doc pm an cdv ct) ⟨us, []⟩ = pure (ps.zip us)) : Binds K fd ps [] := by
  obtain ⟨oc, od, kV, doc, pm, an, cdv, ct, osl, rfl, lk, hcd⟩ := F.ex
  exact .all (h kV doc pm an cdv ct)
theorem fun_mk {x qual : Str} {st : Stmt} {f : Addr} {oc : Value} {od an : Option Addr} {osl : Array (Option Value)} {kV doc pm cdv ct : Value} (l : K.lookup f = some ⟨oc, od, .func (PySem.W.fnOf x qual (defArgs st) (defBody st) (defScope st) .none kV doc pm an cdv ct), osl⟩)
    (c : PySem.W.codeIn K cdv qual = true) (k : PySem.W.keepIn K (.ref f) = true) : Fun K x qual st f (PySem.W.fnOf x qual (defArgs st) (defBody st) (defScope st) .none kV doc pm an cdv ct) := ⟨⟨oc, od, kV, doc, pm, an, cdv, ct, osl, rfl, l, c⟩, k⟩
end
theorem small1000 {n : Nat} (h : n ≤ 1000) : n < sizeLine := Nat.lt_of_le_of_lt h (by decide)
section
variable {X : Cx}
theorem pv (i : Nat) {x : Str} {pos : Pos} (hN : X.N[i]? = some x := by rfl) (hv : Vis X.env.scope x := by first | exact Or.inl rfl | exact Or.inr (Or.inl rfl) | exact Or.inr (Or.inr rfl)) (hd : (x == ("__debug__" : Str)) = false := by decide)
    (hcd : (x == ("__classdict__" : Str)) = false := by decide) : PE X (.Name x pos) (tVar i) := pe_var hN hv hd hcd
end
theorem iteF {A B : Prop} (h : B) : if false = true then A else B := by
  rw [if_neg Bool.false_ne_true]
  exact h
theorem iteT {A B : Prop} (h : A) : if true = true then A else B := by
  rw [if_pos rfl]
  exact h
theorem ite2 {c A B : Prop} [Decidable c] (h1 : c → A) (h2 : ¬ c → B) : if c then A else B := by
  by_cases h : c
  · rw [if_pos h]
    exact h1 h
  · rw [if_neg h]
    exact h2 h
def Same (H H' : Hp) : Prop := ∀ b o, H b = some o → H' b = some o
theorem Same.refl (H : Hp) : Same H H := fun _ _ h => h
theorem Same.trans {H H1 H2 : Hp} (a : Same H H1) (b : Same H1 H2) : Same H H2 := fun c o h => b c o (a c o h)
theorem Same.free {H H' : Hp} (e : Same H H') {l : Addr} (h : H' l = Option.none) : H l = Option.none := by
  cases q : H l with
  | none => rfl
  | some o =>
    rw [e l o q] at h
    cases h
theorem Same.seq {K : PySem.W.Frag} {H H' : Hp} {a : Addr} {xs : List V} (e : Same H H') (h : SqL K H a xs) : SqL K H' a xs := by
  rcases h with (h | ⟨o, h⟩) | h
  · exact .inl (.inl (e _ _ h))
  · exact .inl (.inr ⟨o, e _ _ h⟩)
  · exact .inr h
end L2
set_option linter.all false
namespace L2
open PySem PySem.Spec PyProof.Rows
section
variable {κ : Type} [DecidableEq κ]
def valV (kvs : List (κ × V)) (k : κ) : Option V := (kvs.find? fun kv => decide (kv.1 = k)).map (·.2)
def putK (kvs : List (κ × V)) (k : κ) (v : V) : List (κ × V) :=
  if (kvs.any fun kv => decide (kv.1 = k)) = true then kvs.map (fun kv => if kv.1 = k then (kv.1, v) else kv) else kvs ++ [(k, v)]
def dropK (kvs : List (κ × V)) (k : κ) : List (κ × V) := kvs.filter fun kv => decide (kv.1 ≠ k)
theorem valV_pos {p : κ × V} {r : List (κ × V)} {k : κ} (e : p.1 = k) : valV (p :: r) k = some p.2 := by simp [valV, List.find?_cons, e]
theorem valV_neg {p : κ × V} {r : List (κ × V)} {k : κ} (e : ¬ p.1 = k) : valV (p :: r) k = valV r k := by simp [valV, List.find?_cons, e]
theorem valV_any (k : κ) : ∀ kvs : List (κ × V), (kvs.any fun kv => decide (kv.1 = k)) = (valV kvs k).isSome
  | [] => rfl
  | p :: r => by
    rw [List.any_cons]
    by_cases e : p.1 = k
    · simp only [valV_pos e, decide_eq_true e, Bool.true_or, Option.isSome_some]
    · rw [valV_neg e, decide_eq_false e, Bool.false_or]; exact valV_any k r
theorem RelO.isSome_eq {o : Option V} {u : Option Value} (r : RelO o u) : o.isSome = u.isSome := by
  cases o with
  | none => cases u with
    | none => rfl
    | some _ => exact (show False from r).elim
  | some _ => cases u with
    | none => exact (show False from r).elim
    | some _ => rfl
theorem RelO.getD {o : Option V} {u : Option Value} {d : V} {d' : Value} (r : RelO o u) (rd : RelV d d') : RelV (o.getD d) (u.getD d') := by
  cases o with
  | none => cases u with
    | none => exact rd
    | some _ => exact (show False from r).elim
  | some _ => cases u with
    | none => exact (show False from r).elim
    | some _ => exact r
theorem KV.val {kvs : List (κ × V)} {vs : List (κ × Value)} (r : KV kvs vs) (k : κ) : RelO (valV kvs k) (valueAt vs k) := by
  unfold KV at r
  induction r with
  | nil => exact True.intro
  | @cons p q ps qs h t ih =>
    obtain ⟨h1, h2⟩ := h
    by_cases e : p.1 = k
    · have e' : q.1 = k := h1.symm.trans e
      have b : valueAt (q :: qs) k = some q.2 := by simp [valueAt, List.find?_cons, e']
      rw [valV_pos e, b]; exact h2
    · have e' : ¬ q.1 = k := fun z => e (h1.trans z)
      have b : valueAt (q :: qs) k = valueAt qs k := by simp [valueAt, List.find?_cons, e']
      rw [valV_neg e, b]; exact ih
theorem KV.any {kvs : List (κ × V)} {vs : List (κ × Value)} (r : KV kvs vs) (k : κ) : (kvs.any fun kv => decide (kv.1 = k)) = vs.any fun kv => decide (kv.1 = k) := by
  unfold KV at r
  induction r with
  | nil => rfl
  | cons h t ih => rw [List.any_cons, List.any_cons, ih, h.1]
theorem KV.repl {kvs : List (κ × V)} {vs : List (κ × Value)} (r : KV kvs vs) (k : κ) {y : V} {u : Value} (ry : RelV y u) :
    KV (kvs.map fun kv => if kv.1 = k then (kv.1, y) else kv) (vs.map fun kv => if kv.1 = k then (kv.1, u) else kv) := by
  unfold KV at r ⊢
  induction r with
  | nil => exact .nil
  | @cons p q ps qs h t ih =>
    rw [List.map_cons, List.map_cons]
    refine .cons ?_ ih
    obtain ⟨h1, h2⟩ := h
    by_cases e : p.1 = k
    · rw [if_pos e, if_pos (h1.symm.trans e)]; exact ⟨h1, ry⟩
    · rw [if_neg e, if_neg (fun z => e (h1.trans z))]; exact ⟨h1, h2⟩
theorem KV.put {kvs : List (κ × V)} {vs : List (κ × Value)} (r : KV kvs vs) (k : κ) {y : V} {u : Value} (ry : RelV y u) : KV (putK kvs k y) (stored vs k u) := by
  unfold putK stored
  rw [r.any k]
  by_cases e : (vs.any fun kv => decide (kv.1 = k)) = true
  · rw [if_pos e, if_pos e]; exact r.repl k ry
  · rw [if_neg e, if_neg e]; exact Paired.snoc r ⟨rfl, ry⟩
theorem KV.drop {kvs : List (κ × V)} {vs : List (κ × Value)} (r : KV kvs vs) (k : κ) : KV (dropK kvs k) (without vs k) := by
  unfold KV at r ⊢
  unfold dropK without
  induction r with
  | nil => exact .nil
  | @cons p q ps qs h t ih =>
    obtain ⟨h1, h2⟩ := h
    rw [List.filter_cons, List.filter_cons]
    by_cases e : p.1 = k
    · have a : ¬ decide (p.1 ≠ k) = true := by simp [e]
      have b : ¬ decide (q.1 ≠ k) = true := by simp [h1.symm.trans e]
      rw [if_neg a, if_neg b]; exact ih
    · have e' : ¬ q.1 = k := fun z => e (h1.trans z)
      have a : decide (p.1 ≠ k) = true := by simp [e]
      have b : decide (q.1 ≠ k) = true := by simp [e']
      rw [if_pos a, if_pos b]; exact .cons ⟨h1, h2⟩ ih
theorem KV.keys {kvs : List (κ × V)} {vs : List (κ × Value)} (r : KV kvs vs) : kvs.map (·.1) = vs.map (·.1) := by
  unfold KV at r
  induction r with
  | nil => rfl
  | cons h t ih => rw [List.map_cons, List.map_cons, ih, h.1]
theorem KV.length {kvs : List (κ × V)} {vs : List (κ × Value)} (r : KV kvs vs) : kvs.length = vs.length := Paired.length r
end
abbrev KT (H : Hp) : List (List Key × V) → List (List Key × Addr × Value) → Prop := Paired fun p q => p.1 = q.1 ∧ H q.2.1 = some (.tup (p.1.map kV)) ∧ RelV p.2 q.2.2
theorem KT.val {H : Hp} {kvs : List (List Key × V)} {xs : List (List Key × Addr × Value)} (r : KT H kvs xs) (k : List Key) : RelO (valV kvs k) ((atKey xs k).map (·.2)) := by
  induction r with
  | nil => exact True.intro
  | @cons p q ps qs h t ih =>
    obtain ⟨h1, _, h2⟩ := h
    by_cases e : p.1 = k
    · have e' : q.1 = k := h1.symm.trans e
      have b : atKey (q :: qs) k = some q.2 := by simp [atKey, List.find?_cons, e']
      rw [valV_pos e, b]; exact h2
    · have e' : ¬ q.1 = k := fun z => e (h1.trans z)
      have b : atKey (q :: qs) k = atKey qs k := by simp [atKey, List.find?_cons, e']
      rw [valV_neg e, b]; exact ih
theorem KT.repl {H : Hp} {kvs : List (List Key × V)} {xs : List (List Key × Addr × Value)} (r : KT H kvs xs) (k : List Key) {y : V} {u : Value} (ry : RelV y u) :
    KT H (kvs.map fun kv => if kv.1 = k then (kv.1, y) else kv) (xs.map (putAt k u)) := by
  induction r with
  | nil => exact .nil
  | @cons p q ps qs h t ih =>
    rw [List.map_cons, List.map_cons]
    refine .cons ?_ ih
    obtain ⟨h1, h2, h3⟩ := h
    unfold putAt
    by_cases e : p.1 = k
    · rw [if_pos e, if_pos (h1.symm.trans e)]; exact ⟨h1, h2, ry⟩
    · rw [if_neg e, if_neg (fun z => e (h1.trans z))]; exact ⟨h1, h2, h3⟩
theorem KT.put {H : Hp} {kvs : List (List Key × V)} {xs : List (List Key × Addr × Value)} (r : KT H kvs xs) (k : List Key) {b : Addr} {y : V} {u : Value} (hb : H b = some (.tup (k.map kV))) (ry : RelV y u) :
    KT H (putK kvs k y) (storedH xs k b u) := by
  have e : (kvs.any fun kv => decide (kv.1 = k)) = (atKey xs k).isSome := by
    rw [valV_any, (r.val k).isSome_eq, Option.isSome_map]
  unfold putK storedH
  rw [e]
  by_cases q : (atKey xs k).isSome = true
  · rw [if_pos q, if_pos q]; exact r.repl k ry
  · rw [if_neg q, if_neg q]; exact Paired.snoc r ⟨rfl, hb, ry⟩
theorem KT.keeps {H H' : Hp} {kvs : List (List Key × V)} {xs : List (List Key × Addr × Value)} (r : KT H kvs xs) (ht : ∀ b ys, H b = some (.tup ys) → H' b = some (.tup ys)) : KT H' kvs xs :=
  Paired.mapP r fun _ _ z => ⟨z.1, ht _ _ z.2.1, z.2.2⟩
section
variable {P : Program} {w : World} {H : Hp} {h : Heap} {a : Addr}
end
def DGet (H : Hp) (a : Addr) (y : V) (r : Option V) : Prop :=
  (∃ kvs k, Rd H a (.dK kvs) ∧ y = kV k ∧ r = valV kvs k) ∨ ∃ kvs k b, Rd H a (.dT kvs) ∧ y = .ref b ∧ H b = some (.tup (k.map kV)) ∧ r = valV kvs k
def DPut (H : Hp) (a : Addr) (y v : V) (H' : Hp) : Prop :=
  (∃ kvs k, H a = some (.dK kvs) ∧ y = kV k ∧ kvs.length < sizeLine ∧ H' = upd H a (.dK (putK kvs k v))) ∨
  ∃ kvs k b, H a = some (.dT kvs) ∧ y = .ref b ∧ H b = some (.tup (k.map kV)) ∧ kvs.length < sizeLine ∧ H' = upd H a (.dT (putK kvs k v))
theorem DGet.k {H : Hp} {a : Addr} {kvs : List (Key × V)} {k : Key} (e : H a = some (.dK kvs)) : DGet H a (kV k) (valV kvs k) := .inl ⟨kvs, k, .inl e, rfl, rfl⟩
theorem DGet.t {H : Hp} {a b : Addr} {kvs : List (List Key × V)} {k : List Key} (e : H a = some (.dT kvs)) (eb : H b = some (.tup (k.map kV))) : DGet H a (.ref b) (valV kvs k) := .inr ⟨kvs, k, b, .inl e, rfl, eb, rfl⟩
theorem DPut.k {H : Hp} {a : Addr} {kvs : List (Key × V)} {k : Key} {v : V} (e : H a = some (.dK kvs)) (hl : kvs.length < sizeLine) : DPut H a (kV k) v (upd H a (.dK (putK kvs k v))) := .inl ⟨kvs, k, e, rfl, hl, rfl⟩
theorem DPut.t {H : Hp} {a b : Addr} {kvs : List (List Key × V)} {k : List Key} {v : V} (e : H a = some (.dT kvs)) (eb : H b = some (.tup (k.map kV))) (hl : kvs.length < sizeLine) :
    DPut H a (.ref b) v (upd H a (.dT (putK kvs k v))) := .inr ⟨kvs, k, b, e, rfl, eb, hl, rfl⟩
section
variable {X : Cx} {pins : List (Addr × Obj)} {σ : St} {H : Hp} {s : Shared} {a : Addr} {y v : V} {u r : Value} {o : Option V} {A : Around} {E : Value → Shared → Prop}
end
section
variable {X : Cx} {pins : List (Addr × Obj)} {σ : St} {H : Hp} {s : Shared} {a : Addr} {kvs : List (Key × V)} {k : Key} {u : Value} {A : Around} {E : Value → Shared → Prop}
end
section
variable {X : Cx} {o i e value : Expr} {pos pos' tpos : Pos} {td ty tv : TE}
end
section
variable {X : Cx} {pos : Pos}
end
structure M1 (X : Cx) (o : Expr) (m : Str) (apos : Pos) (e : Expr) (cpos : Pos) : Prop where
  base : attributeBase o m X.env (eval o X.env) = eval o X.env
  few : ((backTo cpos (starEach [e] X.env)).all (fun x => !x.1) && (backToKw cpos (keywordEach [] X.env)).all (fun x => x.1.isSome)
    && decide (([e] : List Expr).length + ([] : List Keyword).length + (if ([] : List Keyword).isEmpty then 0 else 1) < 30)) = true
  line : (apos.endLine == cpos.line) = true
  trees : backTo cpos (starEach [e] X.env) = [(false, eval e X.env)]
structure M2 (X : Cx) (o : Expr) (m : Str) (apos : Pos) (e f : Expr) (cpos : Pos) : Prop where
  base : attributeBase o m X.env (eval o X.env) = eval o X.env
  few : ((backTo cpos (starEach [e, f] X.env)).all (fun x => !x.1) && (backToKw cpos (keywordEach [] X.env)).all (fun x => x.1.isSome)
    && decide (([e, f] : List Expr).length + ([] : List Keyword).length + (if ([] : List Keyword).isEmpty then 0 else 1) < 30)) = true
  line : (apos.endLine == cpos.line) = true
  trees : backTo cpos (starEach [e, f] X.env) = [(false, eval e X.env), (false, eval f X.env)]
section
variable {X : Cx} {pins : List (Addr × Obj)} {σ : St} {H : Hp} {s : Shared} {a : Addr} {y d : V} {u r : Value} {o : Option V} {A : Around} {E : Value → Shared → Prop}
end
section
variable {X : Cx} {o e f : Expr} {apos cpos : Pos} {td ty tx : TE}
end
section
variable {X : Cx} {pins : List (Addr × Obj)} {σ : St} {H : Hp} {s : Shared} {a : Addr} {kvs : List (Key × V)} {A : Around} {E : Value → Shared → Prop}
end
section
variable {X : Cx} {pins : List (Addr × Obj)} {σ : St} {H : Hp} {s : Shared} {a : Addr} {y : V} {u : Value} {A : Around} {E : Value → Shared → Prop}
end
end L2
namespace L2
open PySem PySem.Spec PyProof.Rows
section
variable {X : Cx}
end
section
variable {κ : Type} [DecidableEq κ]
end
end L2
namespace L2
open PySem PySem.Spec PyProof.Rows
def closL (cells : List (Str × Addr)) : List (Str × NameKind) → List (Str × Addr) → List (Str × Addr)
  | [], acc => acc
  | (n, k) :: r, acc => if k == .free then closL cells r ((n, (cells.lookup n).getD 0) :: acc) else closL cells r acc
theorem clos_forIn (env : Env) (f : Str × NameKind → List (Str × Addr) → Sem (ForInStep (List (Str × Addr))))
    (hf : ∀ n k cs, f (n, k) cs = if k == .free then (do let a ← cellOf env n; pure (.yield ((n, a) :: cs))) else pure (.yield cs)) :
    ∀ (names : List (Str × NameKind)) (acc : List (Str × Addr)), (∀ x ∈ names, x.2 = .free → ∃ c, env.cells.lookup x.1 = some c) → forIn names acc f = pure (closL env.cells names acc)
  | [], acc, _ => by rw [List.forIn_nil]; rfl
  | (n, k) :: r, acc, h => by
    have ih := clos_forIn env f hf r
    rw [List.forIn_cons, hf]
    unfold closL
    by_cases hk : (k == NameKind.free) = true
    · rw [if_pos hk, if_pos hk]
      obtain ⟨c, hc⟩ := h (n, k) List.mem_cons_self (by simpa using hk)
      have e : cellOf env n = pure c := by unfold cellOf; rw [hc]
      rw [e, hc]
      exact ih _ fun x hx => h x (List.mem_cons_of_mem _ hx)
    · rw [if_neg hk, if_neg hk]
      exact ih _ fun x hx => h x (List.mem_cons_of_mem _ hx)
theorem closureFor_eq {scope : Scope} {env : Env} (h : ∀ x ∈ scope.names, x.2 = .free → ∃ c, env.cells.lookup x.1 = some c) : closureFor scope env = pure (closL env.cells scope.names []) := by
  simp only [closureFor]
  rw [clos_forIn env _ (fun n k cs => by cases hk : k == NameKind.free <;> simp [hk]) scope.names [] h]
  rfl
theorem closL_mem {cells : List (Str × Addr)} : ∀ {names : List (Str × NameKind)} {acc : List (Str × Addr)} {x : Str} {c : Addr}, (x, c) ∈ closL cells names acc → (x, c) ∈ acc ∨ ((x, NameKind.free) ∈ names ∧ c = (cells.lookup x).getD 0)
  | [], acc, x, c, h => .inl h
  | (n, k) :: r, acc, x, c, h => by
    unfold closL at h
    by_cases hk : (k == NameKind.free) = true
    · rw [if_pos hk] at h
      rcases closL_mem h with q | ⟨q, e⟩
      · rcases List.mem_cons.mp q with z | z
        · cases z
          exact .inr ⟨by rw [show NameKind.free = k from (by simpa using hk : k = NameKind.free).symm]; exact List.mem_cons_self, rfl⟩
        · exact .inl z
      · exact .inr ⟨List.mem_cons_of_mem _ q, e⟩
    · rw [if_neg hk] at h
      rcases closL_mem h with q | ⟨q, e⟩
      · exact .inl q
      · exact .inr ⟨List.mem_cons_of_mem _ q, e⟩
theorem lookup_cons_some {α : Type} {x n : Str} {c : α} {l : List (Str × α)} (h : (l.lookup x).isSome = true) : (((n, c) :: l).lookup x).isSome = true := by
  rw [List.lookup_cons]
  cases x == n <;> simp [h]
theorem closL_some {cells : List (Str × Addr)} {x : Str} : ∀ {names : List (Str × NameKind)} {acc : List (Str × Addr)}, ((x, NameKind.free) ∈ names ∨ (acc.lookup x).isSome = true) → ((closL cells names acc).lookup x).isSome = true
  | [], acc, h => by
    rcases h with h | h
    · cases h
    · exact h
  | (n, k) :: r, acc, h => by
    unfold closL
    by_cases hk : (k == NameKind.free) = true
    · rw [if_pos hk]
      refine closL_some ?_
      rcases h with h | h
      · rcases List.mem_cons.mp h with z | z
        · cases z; exact .inr (by rw [List.lookup_cons]; simp)
        · exact .inl z
      · exact .inr (lookup_cons_some h)
    · rw [if_neg hk]
      refine closL_some ?_
      rcases h with h | h
      · rcases List.mem_cons.mp h with z | z
        · cases z; exact absurd rfl hk
        · exact .inl z
      · exact .inr h
theorem cellsFrom_mem : ∀ {names : List (Str × NameKind)} {n : Nat} {acc : List (Str × Addr)} {x : Str} {c : Addr}, (x, c) ∈ cellsFrom n names acc → (x, c) ∈ acc ∨ (x, NameKind.cell) ∈ names
  | [], _, _, _, _, h => .inl h
  | (y, k) :: r, n, acc, x, c, h => by
    unfold cellsFrom at h
    by_cases hk : (k == NameKind.cell) = true
    · rw [if_pos hk] at h
      rcases cellsFrom_mem h with q | q
      · rcases List.mem_cons.mp q with z | z
        · cases z
          exact .inr (by rw [show NameKind.cell = k from (by simpa using hk : k = NameKind.cell).symm]; exact List.mem_cons_self)
        · exact .inl z
      · exact .inr (List.mem_cons_of_mem _ q)
    · rw [if_neg hk] at h
      rcases cellsFrom_mem h with q | q
      · exact .inl q
      · exact .inr (List.mem_cons_of_mem _ q)
structure CellsTwo (h : Heap) (lo : Nat) (acc cs : List (Str × Addr)) : Prop where
  part : ∀ x c, (x, c) ∈ cs → (x, c) ∈ acc ∨ (h.IsCell c none ∧ lo ≤ c)
  inj : ∀ x y c, lo ≤ c → (x, c) ∈ cs → (y, c) ∈ cs → x = y
theorem cellsFrom_two {acc0 : List (Str × Addr)} : ∀ (names : List (Str × NameKind)) (h : Heap) (lo : Nat) (acc : List (Str × Addr)), CellsTwo h lo acc0 acc → (∀ x c, (x, c) ∈ acc → c < h.objs.size) → lo ≤ h.objs.size →
    CellsTwo (pushCells h names) lo acc0 (cellsFrom h.objs.size names acc)
  | [], _, _, _, x, _, _ => x
  | (name, kind) :: r, h, lo, acc, x, hl, hlo => by
    unfold pushCells cellsFrom
    split
    · have := cellsFrom_two (acc0 := acc0) r (h.push { cls := .type "cell", data := .cell none }) lo ((name, h.objs.size) :: acc)
        ⟨fun n c hm => by
            rcases List.mem_cons.mp hm with e | hm
            · cases e; exact .inr ⟨⟨_, Heap.get?_push_size _ rfl, rfl⟩, hlo⟩
            · rcases x.part n c hm with q | q
              · exact .inl q
              · exact .inr ⟨q.1.keeps fun b o e => Heap.get?_push_of_some _ e, q.2⟩,
          fun a b c hc h1 h2 => by
            rcases List.mem_cons.mp h1 with e1 | h1 <;> rcases List.mem_cons.mp h2 with e2 | h2
            · cases e1; cases e2; rfl
            · cases e1; exact absurd (hl _ _ h2) (Nat.lt_irrefl _)
            · cases e2; exact absurd (hl _ _ h1) (Nat.lt_irrefl _)
            · exact x.inj a b c hc h1 h2⟩
        (fun n c hm => by
          rw [Heap.size_push]
          rcases List.mem_cons.mp hm with e | hm
          · cases e; exact Nat.lt_succ_self _
          · exact Nat.lt_succ_of_lt (hl n c hm)) (by rw [Heap.size_push]; omega)
      rwa [Heap.size_push] at this
    · exact cellsFrom_two r h lo acc x hl hlo
def cenvOf (env : Env) (scope : Scope) (C : Addr) : Env :=
  { scope := relabel scope env, locals := C, globals := env.globals, cells := cellsFrom (C + 1) scope.names (closL env.cells scope.names []), qual := env.qual, func := none, code := env.code, frame := env.frame, builtins := env.builtins }
theorem wpAny_compEnv {M : Model} {A : Around} {E : Value → Shared → Prop} {s : Shared} {scope : Scope} {env : Env} {cl : List (Str × Addr)} {Q : Env → Shared → Prop}
    (hQ : Q { scope := scope, locals := s.heap.objs.size, globals := env.globals, cells := cellsFrom (s.heap.objs.size + 1) scope.names cl, qual := env.qual, func := none, code := env.code, frame := env.frame, builtins := env.builtins }
      { s with heap := pushCells (s.heap.push { cls := .type "dict", data := .dict #[] }) scope.names }) :
    wpAny M A (newFunctionEnv scope env.globals cl [] env.qual none .none (some env)) Q E s := by
  simp only [newFunctionEnv, Option.isSome_some, if_true]
  refine wpAny_bind (wpAny_alloc ?_)
  refine wpAny_bind (wpAny_layCells _ (fun name kind cells => by cases hkc : kind == NameKind.cell <;> simp [hkc]) _ _ _ _ ?_)
  rw [show ({ s with heap := s.heap.push { cls := .type "dict", data := .dict #[] } } : Shared).heap.objs.size = s.heap.objs.size + 1 from Heap.size_push ..]
  rw [List.forIn_nil]
  exact wpAny_bind (wpAny_pure (wpAny_pure hQ))
theorem compLoop_any {prog : Program} {w : World} {A : Around} {R : Result → Shared → Prop} {s : Shared} {elt target iter : Expr} {ifs : List Expr} {scope : Scope} {pos : Pos} {it acc : Value} {env : Env} (I : Nat → Shared → Prop)
    (turn : ∀ n s, I n s → wpAny (model prog w) A (pyNext it) (fun r s₁ => match r with
      | none => R (.ok .next) s₁
      | some v => wpAny (model prog w) A (letOwnedTupleGo target it v) (fun _ s₁' => wpAny (model prog w) A (assign target env v) (fun _ s₂ =>
          wpAny (model prog w) A (forIn ifs true fun c r => if r = true then do let ok ← isTrue c env (eval c env); pure (ForInStep.yield ok) else pure (ForInStep.yield r)) (fun ok s₃ =>
            if ok = true then wpAny (model prog w) A (eval elt env) (fun x s₄ =>
              wpAny (model prog w) A (call (.builtin "list.append") [acc, x]) (fun _ s₅ => ∃ m, m < n ∧ I m s₅) (fun _ _ => False) s₄) (fun _ _ => False) s₃
            else ∃ m, m < n ∧ I m s₃) (fun _ _ => False) s₂) (fun _ _ => False) s₁') (fun _ _ => False) s₁) (fun _ _ => False) s)
    (n : Nat) (h : I n s) :
    codeAny (model prog w) A (.compLoop (.ListComp elt [⟨target, iter, ifs, 0⟩] scope pos) 0 it acc env) R s := by
  refine codeAny_loop rfl I (fun n s hI => ?_) n h
  show wpAny _ A ((compTurn (.ListComp elt [⟨target, iter, ifs, 0⟩] scope pos) 0 it acc env).onRaise (fun x => do noteFrame x env; theTreesLotGoes x)) _ _ s
  refine wpAny_noted ?_
  rw [compTurn_list]
  refine wpAny_bind (wpAny_standAt (wpAny_bind (wpAny_mono (turn n s hI) (fun r s₁ h₁ => ?_) fun _ _ h' => h'.elim)))
  cases r with
  | none => exact wpAny_pure h₁
  | some v =>
    refine wpAny_bind (wpAny_mono h₁ (fun _ s₁' h₁ => ?_) fun _ _ h' => h'.elim)
    refine wpAny_bind (wpAny_mono h₁ (fun _ s₂ h₂ => wpAny_bind (wpAny_mono h₂ (fun ok s₃ h₃ => ?_) fun _ _ h' => h'.elim)) fun _ _ h' => h'.elim)
    cases ok with
    | false => exact wpAny_pure ⟨rfl, h₃⟩
    | true =>
      exact wpAny_bind (wpAny_bind (wpAny_mono h₃ (fun x s₄ h₄ => wpAny_bind (wpAny_mono h₄ (fun _ s₅ h₅ => wpAny_pure (wpAny_pure ⟨rfl, h₅⟩)) fun _ _ h' => h'.elim)) fun _ _ h' => h'.elim))
end L2
namespace L2
open PySem PySem.Spec PyProof.Rows
def relab (scope sc : Scope) : Scope :=
  { scope with names := scope.names.map fun (n, k) => if (k == .free && sc.kind == .function && sc.names.lookup n == some .cell) then (n, .cell) else (n, k) }
def cmpOf (X : Cx) (scope : Scope) (N' : List Str) (C : Addr) (s : Shared) (H : Hp) (fp : List Addr) : Cx :=
  { X with N := N', s₀ := s, H₀ := H, env := cenvOf X.env scope C, outer := X.stack, stack := X.stack, ex := fp, fn := fun x => !(scope.names.lookup x == some .free), pn := [], xe := fun _ _ => False }
def subσ (sub : List (Option Nat)) (σ : St) : St := sub.map fun o => o.bind fun i => (σ[i]?).join
def cmpOkB (N : List Str) (sc : Scope) (N' : List Str) (scope : Scope) (sub : List (Option Nat)) : Bool :=
  scope.kind == .function && decide ((scope.names.map (·.1)).Nodup) && decide N'.Nodup && sub.length == N'.length &&
  (scope.names.all fun x => !(x.2 == .free) || sc.names.lookup x.1 == some .cell || sc.names.lookup x.1 == some .free) &&
  ((sub.zip N').all fun p => match p.1 with
    | none => true
    | some i => N[i]? == some p.2 && scope.names.lookup p.2 == some .free)
structure CmpOk (N : List Str) (sc : Scope) (N' : List Str) (scope : Scope) (sub : List (Option Nat)) : Prop where
  kind : scope.kind = .function
  nd : (scope.names.map (·.1)).Nodup
  nd' : N'.Nodup
  len : sub.length = N'.length
  free : ∀ x ∈ scope.names, x.2 = .free → sc.names.lookup x.1 = some .cell ∨ sc.names.lookup x.1 = some .free
  sub : ∀ (j i : Nat) (x : Str), sub[j]? = some (some i) → N'[j]? = some x → N[i]? = some x ∧ scope.names.lookup x = some .free
theorem CmpOk.of {N : List Str} {sc : Scope} {N' : List Str} {scope : Scope} {sub : List (Option Nat)} (h : cmpOkB N sc N' scope sub = true) : CmpOk N sc N' scope sub := by
  unfold cmpOkB at h
  simp only [Bool.and_eq_true] at h
  obtain ⟨⟨⟨⟨⟨h1, h2⟩, h3⟩, h4⟩, h5⟩, h6⟩ := h
  refine ⟨by simpa using h1, of_decide_eq_true h2, of_decide_eq_true h3, by simpa using h4, fun x hx hf => ?_, fun j i x hj hx => ?_⟩
  · have q := List.all_eq_true.mp h5 x hx
    rw [hf] at q
    simp only [beq_self_eq_true, Bool.not_true, Bool.false_or, Bool.or_eq_true] at q
    rcases q with q | q
    · exact .inl (by simpa using q)
    · exact .inr (by simpa using q)
  · have q := List.all_eq_true.mp h6 (some i, x) (by
      refine List.mem_of_getElem? (i := j) ?_
      rw [List.getElem?_zip_eq_some]
      exact ⟨hj, hx⟩)
    simp only [Bool.and_eq_true] at q
    exact ⟨by simpa using q.1, by simpa using q.2⟩
theorem lookup_mem_nd {α : Type} : ∀ {l : List (Str × α)} {x : Str} {c : α}, (l.map (·.1)).Nodup → (x, c) ∈ l → l.lookup x = some c
  | (y, d) :: r, x, c, nd, h => by
    rw [List.lookup_cons]
    rcases List.mem_cons.mp h with e | h
    · cases e; simp
    · have ne : x ≠ y := fun e => by
        rw [List.map_cons] at nd
        exact (List.nodup_cons.mp nd).1 (by rw [← e]; exact List.mem_map.mpr ⟨(x, c), h, rfl⟩)
      rw [show (x == y) = false from by simpa using ne]
      exact lookup_mem_nd (List.nodup_cons.mp nd).2 h
theorem lookup_relab {sc : Scope} : ∀ {names : List (Str × NameKind)} {x : Str},
    ((names.map fun (n, k) => if (k == NameKind.free && sc.kind == .function && sc.names.lookup n == some .cell) then (n, NameKind.cell) else (n, k)).lookup x) =
      (names.lookup x).map fun k => if (k == NameKind.free && sc.kind == .function && sc.names.lookup x == some .cell) then NameKind.cell else k
  | [], x => rfl
  | (n, k) :: r, x => by
    have ih := @lookup_relab sc r x
    rw [List.map_cons]
    show List.lookup x ((if (k == NameKind.free && sc.kind == .function && sc.names.lookup n == some .cell) = true then (n, NameKind.cell) else (n, k)) :: _) = _
    by_cases hc : (k == NameKind.free && sc.kind == .function && sc.names.lookup n == some .cell) = true
    · rw [if_pos hc, List.lookup_cons, List.lookup_cons]
      by_cases hx : x = n
      · subst hx
        rw [show (x == x) = true from beq_self_eq_true x]
        show some NameKind.cell = Option.map _ (some k)
        rw [Option.map_some, if_pos hc]
      · rw [show (x == n) = false by simpa using hx]
        exact ih
    · rw [if_neg hc, List.lookup_cons, List.lookup_cons]
      by_cases hx : x = n
      · subst hx
        rw [show (x == x) = true from beq_self_eq_true x]
        show some k = Option.map _ (some k)
        rw [Option.map_some, if_neg hc]
      · rw [show (x == n) = false by simpa using hx]
        exact ih
section
variable {X : Cx} {pins : List (Addr × Obj)} {σ : St} {H H' : Hp} {s : Shared}
theorem frs_sub_of (I : Inv X pins σ H s) {b : Addr} (hb : b ∈ frs X.stack) (n1 : b ≠ X.env.locals) : b ∈ X.fs := (List.mem_cons.mp (I.stkSub b hb)).elim (fun e => absurd e n1) id
theorem cells_facts {N' : List Str} {scope : Scope} {sub : List (Option Nat)} {h3 : Heap} (I : Inv X pins σ H s) (O : CmpOk X.N X.env.scope N' scope sub)
    (hk : ∀ b o, s.heap.get? b = some o → h3.get? b = some o) :
    (∀ x c, (cellsFrom (h3.objs.size + 1) scope.names (closL X.env.cells scope.names [])).lookup x = some c →
      (((pushCells (h3.push { cls := .type "dict", data := .dict #[] }) scope.names).IsCell c none ∧ h3.objs.size + 1 ≤ c ∧ (x, NameKind.cell) ∈ scope.names) ∨ ((x, NameKind.free) ∈ scope.names ∧ X.env.cells.lookup x = some c))) ∧
    (∀ x y c, (cellsFrom (h3.objs.size + 1) scope.names (closL X.env.cells scope.names [])).lookup x = some c → (cellsFrom (h3.objs.size + 1) scope.names (closL X.env.cells scope.names [])).lookup y = some c → x = y) := by
  have hin : ∀ x c, (x, c) ∈ closL X.env.cells scope.names [] → (x, NameKind.free) ∈ scope.names ∧ X.env.cells.lookup x = some c := fun x c h => by
    rcases closL_mem h with q | ⟨q, e⟩
    · cases q
    · have hx : ∃ c, X.env.cells.lookup x = some c := by
        refine I.ok.has x ?_
        rcases O.free _ q rfl with z | z
        · exact .inl z
        · exact .inr z
      obtain ⟨c', hc'⟩ := hx
      rw [hc'] at e
      exact ⟨q, by rw [hc', e]; rfl⟩
  have hlt : ∀ x c, (x, c) ∈ closL X.env.cells scope.names [] → c < h3.objs.size := fun x c h => by
    obtain ⟨v, o, ho, _⟩ := I.cell x c (hin x c h).2
    exact Heap.lt_size (hk _ _ ho)
  have two := cellsFrom_two (acc0 := closL X.env.cells scope.names []) scope.names (h3.push { cls := .type "dict", data := .dict #[] }) (h3.objs.size + 1) (closL X.env.cells scope.names [])
    ⟨fun x c h => .inl h, fun x y c hc h1 _ => absurd (hlt x c h1) (Nat.not_lt.mpr (Nat.le_of_succ_le hc))⟩ (fun x c h => by rw [Heap.size_push]; exact Nat.lt_succ_of_lt (hlt x c h)) (by rw [Heap.size_push]; exact Nat.le_refl _)
  rw [Heap.size_push] at two
  refine ⟨fun x c h => ?_, fun x y c h1 h2 => ?_⟩
  · have m := PySem.mem_of_lookup h
    rcases two.part x c m with q | q
    · exact .inr (hin x c q)
    · refine .inl ⟨q.1, q.2, ?_⟩
      rcases cellsFrom_mem m with z | z
      · exact absurd (hlt x c z) (Nat.not_lt.mpr (Nat.le_of_succ_le q.2))
      · exact z
  · have m1 := PySem.mem_of_lookup h1
    have m2 := PySem.mem_of_lookup h2
    by_cases hc : h3.objs.size + 1 ≤ c
    · exact two.inj x y c hc m1 m2
    · rcases two.part x c m1 with q1 | q1
      · rcases two.part y c m2 with q2 | q2
        · exact I.ok.inj x y c (hin x c q1).2 (hin y c q2).2
        · exact absurd q2.2 hc
      · exact absurd q1.2 hc
theorem inv_comp {N' : List Str} {scope : Scope} {sub : List (Option Nat)} {fp : List Addr} (I : Inv X pins σ H s) (O : CmpOk X.N X.env.scope N' scope sub) (hf : ∀ b ∈ fp, FpOk X pins H b)
    (hfl : ∀ b ∈ fp, b < s.heap.objs.size) :
    Inv (cmpOf X scope N' (s.heap.objs.size + 1) s H fp) [(s.heap.objs.size, { cls := .type "list", data := .seq #[] })] (subσ sub σ) H
      { s with heap := pushCells ((s.heap.push { cls := .type "list", data := .seq #[] }).push { cls := .type "dict", data := .dict #[] }) scope.names } := by
  have hk3 : ∀ b o, s.heap.get? b = some o → (s.heap.push { cls := .type "list", data := .seq #[] }).get? b = some o := fun b o e => Heap.get?_push_of_some _ e
  have sz3 : (s.heap.push { cls := .type "list", data := .seq #[] }).objs.size = s.heap.objs.size + 1 := Heap.size_push ..
  have hk : ∀ b o, s.heap.get? b = some o → (pushCells ((s.heap.push { cls := .type "list", data := .seq #[] }).push { cls := .type "dict", data := .dict #[] }) scope.names).get? b = some o :=
    fun b o e => pushCells_keeps _ _ b o (Heap.get?_push_of_some _ (hk3 b o e))
  have cf := cells_facts (h3 := s.heap.push { cls := .type "list", data := .seq #[] }) I O hk3
  rw [sz3] at cf
  have hC : H (s.heap.objs.size + 1) = none := I.hok.fresh (Nat.le_succ _)
  have nsC : (pushCells ((s.heap.push { cls := .type "list", data := .seq #[] }).push { cls := .type "dict", data := .dict #[] }) scope.names).Ns (s.heap.objs.size + 1) (fun _ => none) := by
    rw [← sz3]
    exact (Heap.Ns.new _ _).keeps (pushCells_keeps _ _)
  have has : ∀ x, (scope.names.lookup x = some .cell ∨ scope.names.lookup x = some .free) → ∃ c, (cellsFrom (s.heap.objs.size + 1 + 1) scope.names (closL X.env.cells scope.names [])).lookup x = some c := fun x hx => by
    refine Option.isSome_iff_exists.mp (PySem.W.cellsFrom_some _ _ _ ?_)
    rcases hx with z | z
    · exact .inl z
    · exact .inr (closL_some (.inl (PySem.mem_of_lookup z)))
  have kindB : ∀ x, (cenvOf X.env scope (s.heap.objs.size + 1)).kindOf x = (scope.names.lookup x).map fun k => if (k == NameKind.free && X.env.scope.kind == .function && X.env.scope.names.lookup x == some .cell) then NameKind.cell else k := fun x => lookup_relab
  have cellOk : ∀ x c, (cenvOf X.env scope (s.heap.objs.size + 1)).cells.lookup x = some c → ∃ v, (pushCells ((s.heap.push { cls := .type "list", data := .seq #[] }).push { cls := .type "dict", data := .dict #[] }) scope.names).IsCell c v := fun x c h => by
    rcases cf.1 x c h with q | q
    · exact ⟨_, q.1⟩
    · obtain ⟨v, z⟩ := I.cell x c q.2
      exact ⟨v, z.keeps hk⟩
  refine ⟨⟨I.ok.mod, O.kind, I.ok.glob, I.ok.blt, Nat.le_succ _, fun x y c h1 h2 => cf.2 x y c h1 h2, fun x hx => ?_, fun x c hx h => ?_, I.ok.hd, I.ok.frames, .inl rfl, fun b hb => ?_, fun b o e => I.bs b o e, Nat.le_trans I.ok.bsz I.sz, fun b o e hb => ?_, fun b hb => ?_, I.stack, I.stkFree⟩,
    rfl, I.bare, Un.kept hk, ⟨fun _ => none, nsC, fun i x v h1 h2 h3 => ?_⟩, cellOk, hC, fun x c h => ?_, fun p hp => ?_, I.hok.kept hk, ?_⟩
  · -- has
    refine has x ?_
    have hx : (cenvOf X.env scope (s.heap.objs.size + 1)).kindOf x = some .cell ∨ (cenvOf X.env scope (s.heap.objs.size + 1)).kindOf x = some .free := hx
    rw [kindB] at hx
    cases e : scope.names.lookup x with
    | none => rw [e] at hx; rcases hx with z | z <;> cases z
    | some k =>
      rw [e] at hx
      cases k with
      | cell => exact .inl rfl
      | free => exact .inr rfl
      | _ => exfalso; rcases hx with z | z <;> simp at z
  · -- cab
    rcases cf.1 x c h with q | q
    · have := q.2.1
      show s.heap.objs.size ≤ c
      omega
    · exfalso
      have e := lookup_mem_nd O.nd q.1
      have hx' : (!(scope.names.lookup x == some NameKind.free)) = true := hx
      rw [e] at hx'
      exact absurd hx' (by decide)
  · -- exf
    obtain ⟨f0, f1, f2, f3, f4, f5⟩ := hf b hb
    have lt := hfl b hb
    refine ⟨fun e => ?_, fun x c h e => ?_⟩
    · have e' : b = s.heap.objs.size + 1 := e
      rw [e'] at lt
      exact absurd lt (Nat.not_lt.mpr (Nat.le_succ _))
    · rcases cf.1 x c h with q | q
      · have z := q.2.1
        rw [e] at z
        exact absurd lt (Nat.not_lt.mpr (Nat.le_trans (Nat.le_trans (Nat.le_succ _) (Nat.le_succ _)) z))
      · exact f4 x c q.2 e
  · -- noex
    obtain ⟨f0, f1, f2, f3, f4, f5⟩ := hf b hb
    rcases f3 with z | z
    · exact I.ok.noex b o e z
    · exact absurd (Nat.lt_of_lt_of_le (Heap.lt_size (I.ok.bs b o e).1) z) (Nat.lt_irrefl _)
  · -- exfs
    obtain ⟨f0, f1, f2, f3, f4, f5⟩ := hf b hb
    exact fun z => f2 (frs_sub_of I z f1)
  · -- loc
    have h1' : N'[i]? = some x := h1
    have hsub : ∃ k, sub[i]? = some (some k) ∧ (σ[k]?).join = some v := by
      unfold subσ at h2
      rw [List.getElem?_map] at h2
      cases e : sub[i]? with
      | none => rw [e] at h2; cases h2
      | some o =>
        rw [e] at h2
        cases o with
        | none => cases h2
        | some k => exact ⟨k, rfl, by simpa using h2⟩
    obtain ⟨k, hk1, hk2⟩ := hsub
    obtain ⟨nk, fx⟩ := O.sub i k x hk1 h1'
    have sk : σ[k]? = some (some v) := by
      cases e : σ[k]? with
      | none => rw [e] at hk2; cases hk2
      | some o => rw [e] at hk2; cases o with
        | none => cases hk2
        | some y => cases hk2; rfl
    have cx := O.free _ (PySem.mem_of_lookup fx) rfl
    obtain ⟨m, hn, hl⟩ := I.loc
    obtain ⟨u, ru, lk⟩ := hl k x v nk sk (by
      rcases cx with z | z
      · exact .inr (.inl z)
      · exact .inr (.inr z))
    refine ⟨u, ru, .inr ⟨?_, ?_⟩⟩
    · show (cenvOf X.env scope (s.heap.objs.size + 1)).kindOf x = some .cell ∨ (cenvOf X.env scope (s.heap.objs.size + 1)).kindOf x = some .free
      rw [kindB, fx]
      by_cases hc : (NameKind.free == NameKind.free && X.env.scope.kind == .function && X.env.scope.names.lookup x == some .cell) = true
      · exact .inl (by rw [Option.map_some, if_pos hc])
      · exact .inr (by rw [Option.map_some, if_neg hc])
    · rcases lk with ⟨kl, _⟩ | ⟨_, c, hc, hcell⟩
      · exfalso
        have kl' : X.env.scope.names.lookup x = some .local := kl
        rcases cx with z | z <;> rw [kl'] at z <;> cases z
      · obtain ⟨c', hc'⟩ := has x (.inr fx)
        refine ⟨c', hc', ?_⟩
        rcases cf.1 x c' hc' with q | q
        · exfalso
          have e := lookup_mem_nd O.nd q.2.2
          rw [fx] at e; cases e
        · rw [hc] at q
          have e : c = c' := Option.some.inj q.2
          subst e
          exact hcell.keeps hk
  · -- freeC
    rcases cf.1 x c h with q | q
    · exact I.hok.fresh (by have := q.2.1; omega)
    · exact I.freeC x c q.2
  · -- pin
    have hp' : p = (s.heap.objs.size, ({ cls := .type "list", data := .seq #[] } : Obj)) := by
      have : p ∈ ([] ++ [(s.heap.objs.size, ({ cls := .type "list", data := .seq #[] } : Obj))] : List (Addr × Obj)) := hp
      simpa using this
    subst hp'
    refine ⟨pushCells_keeps _ _ _ _ (Heap.get?_push_of_some _ (Heap.get?_push_size _ rfl)), I.hok.fresh (Nat.le_refl _), Nat.ne_of_lt (Nat.lt_succ_self _), fun z => ?_, fun v z => ?_⟩
    · rcases List.mem_cons.mp (I.stkSub _ z) with e | e
      · exact absurd I.lt (by rw [← e]; exact Nat.lt_irrefl _)
      · exact I.nofs (Nat.le_refl _) e
    · cases z
  · -- len
    show (subσ sub σ).length = N'.length
    unfold subσ
    rw [List.length_map, O.len]
end
end L2
namespace L2
open PySem PySem.Spec PyProof.Rows
def Sle (σ σ2 : St) : Prop := σ2.length = σ.length ∧ ∀ (i : Nat) (v : V), σ[i]? = some (some v) → σ2[i]? = some (some v)
theorem Sle.refl (σ : St) : Sle σ σ := ⟨rfl, fun _ _ h => h⟩
theorem Sle.set {σ σ2 : St} {i : Nat} (v : V) (h : Sle σ σ2) (hi : ∀ u, σ[i]? ≠ some (some u)) : Sle σ (σ2.set i (some v)) := by
  refine ⟨by rw [List.length_set]; exact h.1, fun j u hj => ?_⟩
  have ne : i ≠ j := fun e => hi u (by rw [e]; exact hj)
  rw [List.getElem?_set_ne ne]
  exact h.2 j u hj
def PTs (X : Cx) (ifs : List Expr) (t : TT) : Prop :=
  ∀ (pins : List (Addr × Obj)) (s : Shared) (σ : St) (H : Hp) (Q : Bool → Hp → Prop), Inv X pins σ H s → t σ H Q →
    wpAny (model X.prog X.w) X.A (forIn ifs true fun c r => if r = true then do let ok ← isTrue c X.env (eval c X.env); pure (ForInStep.yield ok) else pure (ForInStep.yield r)) (TP X pins σ Q) X.xe s
def tNoTest : TT := fun _ H Q => Q true H
theorem pts_nil {X : Cx} : PTs X [] tNoTest := fun pins s σ H Q I h => wpAny_tests_nil ⟨H, I, h⟩
theorem pts_one {X : Cx} {c : Expr} {t : TT} (h : PT X c t) : PTs X [c] t := fun pins s σ H Q I hw => wpAny_tests_one (h pins s σ H Q I hw)
def cTurns (J : It) (σ0 : St) (g : TG) (tt : TT) (te : TE) (Q : List V → Hp → Prop) (H1 : Hp) : Prop :=
  ∃ W : Nat → Nat → List V → Hp → Prop, (∃ m, W 0 m [] H1) ∧ ∀ i m ys H, W i m ys H →
    (J.stop i H ∧ Q ys H) ∨
    (J.go i H ∧ ∀ x H', J.yld i H x H' → g x σ0 H' fun σ2 H2 => Sle σ0 σ2 ∧ tt σ2 H2 fun b H3 =>
      if b = true then te σ2 H3 (fun v H4 => ys.length < sizeLine ∧ ∃ m', m' < m ∧ W (i + 1) m' (ys ++ [v]) H4) else ∃ m', m' < m ∧ W (i + 1) m' ys H3)
section
variable {X : Cx} {pins : List (Addr × Obj)} {σ : St} {H : Hp} {s : Shared}
theorem comp_core {target iter elt : Expr} {ifs : List Expr} {scope : Scope} {pos : Pos} {N' : List Str} {sub : List (Option Nat)} {J : It} {fp : List Addr} {it : Addr} {tn : Nat → Heap → Prop} {g : TG} {tt : TT} {te : TE}
    {Qe : List V → Hp → Prop} {E : Value → Shared → Prop} {RR : Value → Addr → Result → Shared → Prop}
    (hc : X.calm = true) (I : Inv X pins σ H s) (O : CmpOk X.N X.env.scope N' scope sub) (T : Turn X.prog X.w X.K target J fp it tn) (st : tn 0 s.heap) (hf : ∀ b ∈ fp, FpOk X pins H b)
    (B : ∀ C s H fp, PG (cmpOf X scope N' C s H fp) target g ∧ PTs (cmpOf X scope N' C s H fp) ifs tt ∧ PE (cmpOf X scope N' C s H fp) elt te)
    (rd : cTurns J (subσ sub σ) g tt te Qe H)
    (hRR : ∀ (acc C : Addr) (ys : List V) (H' : Hp) (s' : Shared), Inv X pins σ (upd H' acc (.lst ys)) s' → FpOk X pins (upd H' acc (.lst ys)) C → (∃ m, s'.heap.Ns C m) → H' acc = none → Qe ys H' → RR (.ref acc) C (.ok .next) s') :
    wpAny (model X.prog X.w) X.A (newList []) (fun acc s₃ => wpAny (model X.prog X.w) X.A (newFunctionEnv scope X.env.globals (closL X.env.cells scope.names []) [] X.env.qual none .none (some X.env)) (fun cenv s₄ =>
      codeAny (model X.prog X.w) X.A (.compStart (.ListComp elt [⟨target, iter, ifs, 0⟩] scope pos) 0 (.ref it) acc { cenv with scope := relabel scope X.env }) (RR acc cenv.locals) s₄) E s₃) E s := by
  refine wpAny_newObj_type (wpAny_compEnv ?_)
  have hfl : ∀ b ∈ fp, b < s.heap.objs.size := fun b hb => by
    obtain ⟨o, e, _⟩ := T.obj _ _ st b hb
    exact Heap.lt_size e
  have I0 := inv_comp (sub := sub) I O hf hfl
  have sz3 : (s.heap.push { cls := .type "list", data := .seq #[] }).objs.size = s.heap.objs.size + 1 := Heap.size_push ..
  dsimp only
  show codeAny _ _ (.compStart _ 0 (.ref it) (.ref s.heap.objs.size) { scope := relabel scope X.env, locals := (s.heap.push { cls := .type "list", data := .seq #[] }).objs.size, globals := X.env.globals, cells := cellsFrom ((s.heap.push { cls := .type "list", data := .seq #[] }).objs.size + 1) scope.names (closL X.env.cells scope.names []), qual := X.env.qual, func := none, code := X.env.code, frame := X.env.frame, builtins := X.env.builtins })
    (RR (.ref s.heap.objs.size) (s.heap.push { cls := .type "list", data := .seq #[] }).objs.size) { s with heap := pushCells ((s.heap.push { cls := .type "list", data := .seq #[] }).push { cls := .type "dict", data := .dict #[] }) scope.names }
  rw [sz3]
  show codeAny _ _ (.compStart _ 0 (.ref it) (.ref s.heap.objs.size) (cenvOf X.env scope (s.heap.objs.size + 1))) (RR (.ref s.heap.objs.size) (s.heap.objs.size + 1)) _
  generalize hs0 : ({ s with heap := pushCells ((s.heap.push { cls := .type "list", data := .seq #[] }).push { cls := .type "dict", data := .dict #[] }) scope.names } : Shared) = s0 at I0 ⊢
  have hk0 : ∀ b o, s.heap.get? b = some o → s0.heap.get? b = some o := fun b o e => by
    rw [← hs0]
    exact pushCells_keeps _ _ b o (Heap.get?_push_of_some _ (Heap.get?_push_of_some _ e))
  have st0 : tn 0 s0.heap := T.keep _ _ _ st fun b hb o e => hk0 b o e
  clear hs0 sz3
  generalize hX : cmpOf X scope N' (s.heap.objs.size + 1) s H fp = X' at I0
  have xp : X'.prog = X.prog := by rw [← hX]; rfl
  have xw : X'.w = X.w := by rw [← hX]; rfl
  have xK : X'.K = X.K := by rw [← hX]; rfl
  have xA : X'.A = X.A := by rw [← hX]; rfl
  have xc : X'.calm = true := by rw [← hX]; exact hc
  have xe : X'.env = cenvOf X.env scope (s.heap.objs.size + 1) := by rw [← hX]; rfl
  have xx : X'.ex = fp := by rw [← hX]; rfl
  have xo : X'.outer = X.stack := by rw [← hX]; rfl
  have xf : X'.fs = frs X.stack := by rw [← hX]; rfl
  have xpn : X'.pn = [] := by rw [← hX]; rfl
  have x0 : X'.s₀ = s := by rw [← hX]; rfl
  have xh : X'.H₀ = H := by rw [← hX]; rfl
  have xxe : X'.xe = fun _ _ => False := by rw [← hX]; rfl
  obtain ⟨hg, ht, he⟩ := B (s.heap.objs.size + 1) s H fp
  rw [hX] at hg ht he
  clear hX
  have stat : ∀ {pl : List (Addr × Obj)} {H' : Hp}, (∀ p ∈ pl, p.1 = s.heap.objs.size) → (∀ b ∈ fp, H' b = none) → ∀ b ∈ fp, FpOk X' pl H' b := fun {pl H'} hp hn b hb => by
    obtain ⟨f0, f1, f2, f3, f4, f5⟩ := hf b hb
    refine ⟨hn b hb, (I0.ok.exf b (by rw [xx]; exact hb)).1, I0.ok.exfs b (by rw [xx]; exact hb), .inl (by rw [xx]; exact hb), (I0.ok.exf b (by rw [xx]; exact hb)).2, fun p hp' => ?_⟩
    rw [xpn, List.nil_append] at hp'
    rw [hp p hp']
    exact Nat.ne_of_gt (hfl b hb)
  obtain ⟨W, ⟨m0, w0⟩, turn⟩ := rd
  have loop : ∀ s3 : Shared, s3 = s0 → codeAny (model X.prog X.w) X.A (.compLoop (.ListComp elt [⟨target, iter, ifs, 0⟩] scope pos) 0 (.ref it) (.ref s.heap.objs.size) (cenvOf X.env scope (s.heap.objs.size + 1))) (RR (.ref s.heap.objs.size) (s.heap.objs.size + 1)) s3 := by
    intro s3 e3
    refine compLoop_any (fun n s' => ∃ (i : Nat) (ys : List V) (H' : Hp) (its : List Value) (k : Nat), Inv X' [(s.heap.objs.size, { cls := .type "list", data := .seq its.toArray k })] (subσ sub σ) H' s' ∧ Vals ys its ∧ ys.length ≤ sizeLine ∧ tn i s'.heap ∧ (∀ b ∈ fp, H' b = none) ∧ W i n ys H') ?_ m0
      ⟨0, [], H, [], 0, by rw [e3]; exact I0, .nil, Nat.zero_le _, by rw [e3]; exact st0, fun b hb => (hf b hb).1, w0⟩
    rintro n s4 ⟨i, ys, H4, its, k, I4, rv, hz, st4, fr4, w4⟩
    have pe : ∀ p ∈ ([(s.heap.objs.size, ({ cls := .type "list", data := .seq its.toArray k } : Obj))] : List (Addr × Obj)), p.1 = s.heap.objs.size := fun p hp => by
      rw [List.mem_singleton] at hp
      rw [hp]
    rcases turn i n ys H4 w4 with ⟨stop, q⟩ | ⟨go, step⟩
    · -- the end
      have td := T.done X' xp xw xK xc i _ s4 (subσ sub σ) H4 (fun _ _ => False) I4 (stat pe fr4) st4 stop
      rw [xA] at td
      refine thn td fun r s5 ⟨hr, I5⟩ => ?_
      subst hr
      have pa := I5.pin (s.heap.objs.size, { cls := .type "list", data := .seq its.toArray k }) (by rw [xpn]; simp)
      have nacc : H4 s.heap.objs.size = none := pa.2.1
      have nC : H4 (s.heap.objs.size + 1) = none := by have z := I5.free; rw [xe] at z; exact z
      have un : Un (frs X.stack) fp H H4 s.heap s5.heap := by have z := I5.base; rw [xf, xx, xh, x0] at z; exact z
      have un2 : Un (frs X.stack) fp H (upd H4 s.heap.objs.size (.lst ys)) s.heap s5.heap := by
        refine ⟨un.keep, un.slot, fun b o e n hx => ?_, un.there, fun b xs e => ?_, fun b o u e => ?_, fun b ps e => ?_⟩
        · rw [upd_ne (Nat.ne_of_lt (Heap.lt_size e))]
          exact un.free b o e n hx
        · have z := un.tups b xs e
          rw [upd_ne (ne_of_none z nacc)]; exact z
        · have z := un.frzs b o u e
          rw [upd_ne (ne_of_none z nacc)]; exact z
        · obtain ⟨more, z⟩ := un.tbls b ps e
          exact ⟨more, by rw [upd_ne (ne_of_none z nacc)]; exact z⟩
      have hok5 : HOk X.prog X.w H4 s5.heap := by have z := I5.hok; rw [xp, xw] at z; exact z
      have hok2 : HOk X.prog X.w (upd H4 s.heap.objs.size (.lst ys)) s5.heap := fun b u e => by
        by_cases hb : b = s.heap.objs.size
        · subst hb
          rw [upd_same] at e
          cases e
          exact ⟨hz, its, k, rv, pa.1⟩
        · rw [upd_ne hb] at e
          exact (hok5 b u e).stay (fun _ _ _ q => q) (fun c q => by rw [upd_ne (ne_of_none q nacc)]; exact q) fun c xs q => by rw [upd_ne (ne_of_none q nacc)]; exact q
      have os5 : s5.os = s.os := by have z := I5.os; rw [x0] at z; exact z
      have J5 : Inv X pins σ (upd H4 s.heap.objs.size (.lst ys)) s5 := I.call' os5 un2 hok2 I5.bare fun b hb => by
        obtain ⟨f0, f1, f2, f3, f4, f5⟩ := hf b hb
        exact ⟨f3, f1, f4, f5⟩
      refine hRR _ _ ys H4 s5 J5 (I.fpOk (Nat.le_succ _) ?_) ?_ nacc q
      · rw [upd_ne (Nat.succ_ne_self _)]; exact nC
      · obtain ⟨m, hn, _⟩ := I5.loc
        rw [xe] at hn
        exact ⟨m, hn⟩
    · -- one turn
      have ti := T.item X' xp xw xK xc i _ s4 (subσ sub σ) H4 (fun _ _ => False) I4 (stat pe fr4) st4 go
      rw [xA] at ti
      refine thn ti fun r s5 ⟨u, hr, h5⟩ => ?_
      subst hr
      refine thn h5 fun _ s6 ⟨x, H6, I6, r6, y6, st6, fr6⟩ => ?_
      have I6' := I6.pinned (stat pe fr6) (T.obj _ _ st6)
      have tg := hg _ s6 (subσ sub σ) H6 x u _ I6' r6 (step x H6 y6)
      rw [xp, xw, xA, xe, xxe] at tg
      refine thn tg fun _ s7 ⟨σ7, H7, I7, le7, q7⟩ => ?_
      have tts := ht _ s7 σ7 H7 _ I7 q7
      rw [xp, xw, xA, xe, xxe] at tts
      refine thn tts fun b s8 ⟨H8, I8, q8⟩ => ?_
      cases b with
      | false =>
        rw [if_neg Bool.false_ne_true] at q8 ⊢
        obtain ⟨m', hm', w8⟩ := q8
        have I9 : Inv X' ([(s.heap.objs.size, { cls := .type "list", data := .seq its.toArray k })] ++ pinsAt fp s6.heap) (subσ sub σ) H8 s8 := I8.weak le7.1.symm le7.2
        refine ⟨m', hm', i + 1, ys, H8, its, k, I9.unpinned, rv, hz, T.keep _ _ _ st6 fun b hb o e => (I9.pin (b, o) (List.mem_append_right _ (List.mem_append_right _ (mem_pinsAt hb e)))).1, fun b hb => ?_, w8⟩
        obtain ⟨o, e, d⟩ := T.obj _ _ st6 b hb
        exact (I9.pin (b, o) (List.mem_append_right _ (List.mem_append_right _ (mem_pinsAt hb e)))).2.1
      | true =>
        rw [if_pos rfl] at q8 ⊢
        have tee := he _ s8 σ7 H8 _ I8 q8
        rw [xp, xw, xA, xe, xxe] at tee
        refine thn tee fun vv s9 ⟨v, H9, I9, r9, lz, m', hm', w9⟩ => ?_
        have I10 : Inv X' ([(s.heap.objs.size, { cls := .type "list", data := .seq its.toArray k })] ++ pinsAt fp s6.heap) (subσ sub σ) H9 s9 := I9.weak le7.1.symm le7.2
        have pa := I10.pin (s.heap.objs.size, { cls := .type "list", data := .seq its.toArray k }) (by rw [xpn]; simp)
        have hlen := rv.length
        refine wpAny_list_append_plain (items := its.toArray) ⟨k, pa.1⟩ (fun h' pl sb => ?_) (by rw [List.size_toArray]; omega)
        obtain ⟨k', pl⟩ := pl
        have keepIt : ∀ b ∈ fp, ∀ o, s6.heap.get? b = some o → h'.get? b = some o := fun b hb o e => by
          have nb : b ≠ s.heap.objs.size := Nat.ne_of_lt (hfl b hb)
          exact (sb.2 b nb).trans (I10.pin (b, o) (List.mem_append_right _ (List.mem_append_right _ (mem_pinsAt hb e)))).1
        have I11 : Inv X' [] (subσ sub σ) H9 s9 := I10.pins_of fun p hp => absurd hp (by simp)
        have sacc : s.heap.objs.size ≠ X'.env.locals := pa.2.2.1
        have I12 : Inv X' [] (subσ sub σ) H9 { s9 with heap := h' } := I11.turned (t' := s9.toks) (it := s.heap.objs.size) (fun b o hb e => (sb.2 b hb).trans e) pa.2.1 sacc (.inr (by rw [x0]; exact Nat.le_refl _))
          (fun y c hy z => by
            obtain ⟨w', o', ho', hd'⟩ := I10.cell y c hy
            rw [z, pa.1] at ho'
            have z2 := Option.some.inj ho'
            rw [← z2] at hd'
            cases hd') (fun p hp => absurd hp (by rw [xpn]; simp))
        refine ⟨m', hm', i + 1, ys ++ [v], H9, its ++ [vv], k', I12.pins_of (fun p hp => ?_), rv.append (.cons r9 .nil), by rw [List.length_append, List.length_singleton]; omega, T.keep _ _ _ st6 keepIt, fun b hb => ?_, w9⟩
        · rw [List.mem_singleton] at hp
          subst hp
          refine ⟨?_, pa.2.1, sacc, pa.2.2.2.1, fun v z => by cases z⟩
          show h'.get? s.heap.objs.size = _
          rw [pl]
          simp
        · obtain ⟨o, e, d⟩ := T.obj _ _ st6 b hb
          exact (I10.pin (b, o) (List.mem_append_right _ (List.mem_append_right _ (mem_pinsAt hb e)))).2.1
  exact codeAny_compStart_list (loop _ rfl) (T.self _ 0 _ _ _ st0 (loop _ rfl))
end
end L2
namespace L2
open PySem PySem.Spec PyProof.Rows
def tComp (sub : List (Option Nat)) (wi : TI) (g : TG) (tt : TT) (te : TE) : TE := fun σ H Q => wi σ H fun J H1 =>
  cTurns J (subσ sub σ) g tt te (fun ys H' => ∀ r, H' r = none → Q (.ref r) (upd H' r (.lst ys))) H1
section
variable {X : Cx} {target iter elt : Expr} {ifs : List Expr} {scope : Scope} {pos : Pos} {N' : List Str} {sub : List (Option Nat)} {wi : TI} {g : TG} {tt : TT} {te : TE}
theorem clos_of {pins : List (Addr × Obj)} {σ : St} {H : Hp} {s : Shared} (I : Inv X pins σ H s) (O : CmpOk X.N X.env.scope N' scope sub) : closureFor scope X.env = pure (closL X.env.cells scope.names []) :=
  closureFor_eq fun x hx hf => I.ok.has x.1 (by rcases O.free x hx hf with z | z; exact .inl z; exact .inr z)
theorem names_of (O : CmpOk X.N X.env.scope N' scope sub) : ∀ y ∈ scope.names, y.2 = .local → scope.names.lookup y.1 = some .local := fun y hy e => by
  obtain ⟨n, k⟩ := y
  cases e
  exact lookup_mem_nd O.nd hy
theorem pe_comp (hc : X.calm = true) (O : CmpOk X.N X.env.scope N' scope sub) (hi : PI X target iter wi)
    (B : ∀ C s H fp, PG (cmpOf X scope N' C s H fp) target g ∧ PTs (cmpOf X scope N' C s H fp) ifs tt ∧ PE (cmpOf X scope N' C s H fp) elt te)
    (hs : ∀ x, foldedSetIterable iter X.env x = pure x := by intro _; rfl) : PE X (.ListComp elt [⟨target, iter, ifs, 0⟩] scope pos) (tComp sub wi g tt te) := by
  intro pins s σ H Q I h
  rw [eval_ListComp]
  refine wpAny_comprehension_free (use := none) rfl hs (clos_of I O) O.kind (names_of O) (thn (hi pins s σ H _ I h) fun v s1 h1 => thn h1 fun itv s2 h2 => ?_)
  obtain ⟨it, fp, tn, J, H2, e, I2, T, st2, f2, rd⟩ := h2
  subst e
  refine comp_core (RR := fun acc C => compPost (model X.prog X.w) X.A X.xe none (EP X pins σ Q) acc C) hc I2 O T st2 f2 B rd fun acc C ys H' s' I' fC hn na q => ?_
  obtain ⟨m, hn⟩ := hn
  obtain ⟨f0, f1, f3, f4, f5, f6⟩ := fC
  refine ⟨m, hn, fun h' sb => ?_⟩
  exact ⟨.ref acc, upd H' acc (.lst ys), I'.turned (t' := s'.toks) (it := C) (fun b o hb e => (sb.2 b hb).trans e) f0 f1 f4 f5 f6, rfl, q acc na⟩
theorem ps_comp {i : Nat} {y : Str} {py spos : Pos} (hc : X.calm = true) (O : CmpOk X.N X.env.scope N' scope sub) (hi : PI X target iter wi)
    (B : ∀ C s H fp, PG (cmpOf X scope N' C s H fp) target g ∧ PTs (cmpOf X scope N' C s H fp) ifs tt ∧ PE (cmpOf X scope N' C s H fp) elt te)
    (hN : X.N.Nodup) (hy : X.N[i]? = some y) (hx : Loc X.env.scope y)
    (hsw : swapsWith (.ListComp elt [⟨target, iter, ifs, 0⟩] scope pos) (some (.Name y py)) spos.line X.env = pure true)
    (hs : ∀ x, foldedSetIterable iter X.env x = pure x := by intro _; rfl) (hf : X.fn y = true ∨ X.env.scope.names.lookup y = some .local := by first | exact .inl rfl | exact .inr rfl | assumption) :
    PS X (.Assign [.Name y py] (.ListComp elt [⟨target, iter, ifs, 0⟩] scope pos) spos) (tAsg (tComp sub wi g tt te) (gName i)) := by
  intro pins s σ H D I h
  rw [exec_Assign_Name_used _ _ _ _ hsw]
  refine wpAny_bind (wpAny_standAt (wpAny_bind ?_))
  show wpAny _ _ (do let _ ← comprehension (.ListComp elt [⟨target, iter, ifs, 0⟩] scope pos) scope X.env _ (newList []) false (eval iter X.env) (some (assign (.Name y py) X.env))) _ _ s
  refine wpAny_bind (wpAny_mono (wpAny_comprehension_free (use := some (assign (.Name y py) X.env)) (Q := fun _ s' => SP X pins D .next s') rfl hs (clos_of I O) O.kind (names_of O)
    (thn (hi pins s σ H _ I h) fun v s1 h1 => thn h1 fun itv s2 h2 => ?_)) (fun _ s' hq => wpAny_pure (wpAny_pure hq)) fun _ _ e => e)
  obtain ⟨it, fp, tn, J, H2, e, I2, T, st2, f2, rd⟩ := h2
  subst e
  refine comp_core (RR := fun acc C => compPost (model X.prog X.w) X.A X.xe (some (assign (.Name y py) X.env)) (fun _ s' => SP X pins D .next s') acc C) hc I2 O T st2 f2 B rd fun acc C ys H' s' I' fC hn na q => ?_
  obtain ⟨m, hn⟩ := hn
  obtain ⟨f0, f1, f3, f4, f5, f6⟩ := fC
  show wpAny _ _ (assign (.Name y py) X.env (.ref acc)) _ _ s'
  refine wpAny_assign_Name (store_ok2 (v := .ref acc) I' hN hy hx rfl (fun s'' I'' ⟨a, sb, ha⟩ => ?_) hf)
  have nCa : C ≠ a := by
    rcases ha with z | z
    · rw [z]; exact f1
    · exact fun e => f5 _ _ z e.symm
  refine ⟨m, hn.sameBut sb nCa, fun h' sb' => ?_⟩
  exact ⟨_, upd H' acc (.lst ys), I''.turned (t' := s''.toks) (it := C) (fun b o hb e => (sb'.2 b hb).trans e) f0 f1 f4 f5 f6, q acc na⟩
end
section
variable {σ0 : St} {g : TG} {tt : TT} {te : TE} {Q : List V → Hp → Prop} {H1 : Hp}
def Nxt (n i : Nat) (Pv : Nat → List V → Hp → Prop) (ys : List V) (H : Hp) : Prop := ∃ m', m' < n - i ∧ m' = n - (i + 1) ∧ i + 1 ≤ n ∧ Pv (i + 1) ys H
theorem nxt {n i : Nat} {Pv : Nat → List V → Hp → Prop} {ys : List V} {H : Hp} (hi : i < n) (h : Pv (i + 1) ys H) : Nxt n i Pv ys H := ⟨_, by omega, rfl, hi, h⟩
theorem turns_list {K : PySem.W.Frag} {a : Addr} {xs : List V} (Pv : Nat → List V → Hp → Prop) (h0 : Pv 0 [] H1) (hl : ∀ i ys H, i ≤ xs.length → Pv i ys H → SqL K H a xs)
    (hs : ∀ i x ys H, xs[i]? = some x → Pv i ys H → g x σ0 H fun σ2 H2 => Sle σ0 σ2 ∧ tt σ2 H2 fun b H3 => if b = true then te σ2 H3 (fun v H4 => ys.length < sizeLine ∧ Nxt xs.length i Pv (ys ++ [v]) H4) else Nxt xs.length i Pv ys H3)
    (hd : ∀ ys H, Pv xs.length ys H → Q ys H) : cTurns (Itl K a) σ0 g tt te Q H1 := by
  refine ⟨fun i m ys H => m = xs.length - i ∧ i ≤ xs.length ∧ Pv i ys H, ⟨xs.length, by simp, Nat.zero_le _, h0⟩, ?_⟩
  rintro i m ys H ⟨rfl, hi, p⟩
  have q := hl i ys H hi p
  by_cases hlt : i < xs.length
  · refine .inr ⟨⟨xs, xs[i], q, by simp [hlt]⟩, fun x H' y => ?_⟩
    obtain ⟨e, y⟩ := y
    subst e
    exact hs i x ys _ (y xs q) p
  · have e : i = xs.length := by omega
    subst e
    exact .inl ⟨⟨xs, q, Nat.le_refl _⟩, hd ys H p⟩
theorem turns_range {lo : Int} {n : Nat} (Pv : Nat → List V → Hp → Prop) (h0 : Pv 0 [] H1)
    (hs : ∀ i ys H, i < n → Pv i ys H → g (.int (lo + i)) σ0 H fun σ2 H2 => Sle σ0 σ2 ∧ tt σ2 H2 fun b H3 => if b = true then te σ2 H3 (fun v H4 => ys.length < sizeLine ∧ Nxt n i Pv (ys ++ [v]) H4) else Nxt n i Pv ys H3)
    (hd : ∀ ys H, Pv n ys H → Q ys H) : cTurns (Itr lo n) σ0 g tt te Q H1 := by
  refine ⟨fun i m ys H => m = n - i ∧ i ≤ n ∧ Pv i ys H, ⟨n, by simp, Nat.zero_le _, h0⟩, ?_⟩
  rintro i m ys H ⟨rfl, hi, p⟩
  by_cases hlt : i < n
  · refine .inr ⟨hlt, fun x H' y => ?_⟩
    obtain ⟨e, y⟩ := y
    subst e y
    exact hs i ys _ hlt p
  · have e : i = n := by omega
    subst e
    exact .inl ⟨Nat.le_refl _, hd ys H p⟩
end
end L2
namespace L2
open PySem PySem.Spec PyProof.Rows PySem.SeqAt
mutual
inductive DR (K : PySem.W.Frag) (H : Hp) : V → PyData → Prop
  | non : DR K H .non .none
  | bl (b : Bool) : DR K H (.bl b) (.bool b)
  | int (i : Int) : DR K H (.int i) (.int i)
  | str (x : Str) : DR K H (.str x) (.str x)
  | lst {a : Addr} {xs : List V} {ds : List PyData} : SqL K H a xs → DRs K H xs ds → DR K H (.ref a) (.list ds)
  | tup {a : Addr} {xs : List V} {ds : List PyData} : SqT K H a xs → DRs K H xs ds → DR K H (.ref a) (.tuple ds)
inductive DRs (K : PySem.W.Frag) (H : Hp) : List V → List PyData → Prop
  | nil : DRs K H [] []
  | cons {v : V} {d : PyData} {vs : List V} {ds : List PyData} : DR K H v d → DRs K H vs ds → DRs K H (v :: vs) (d :: ds)
end
section
variable {X : Cx} {pins : List (Addr × Obj)} {σ : St} {H : Hp} {s : Shared}
mutual
theorem DR.reads (I : Inv X pins σ H s) : ∀ {v : V} {d : PyData} {u : Value}, DR X.K H v d → RelV v u → ∃ as, Reads s.heap u d as
  | _, _, _, .non, r => by cases r; exact ⟨_, .none⟩
  | _, _, _, .bl b, r => by cases r; exact ⟨_, .bool b⟩
  | _, _, _, .int i, r => by obtain ⟨t, rfl⟩ := r; exact ⟨_, .int i t⟩
  | _, _, _, .str x, r => by obtain ⟨t, rfl⟩ := r; exact ⟨_, .str x t⟩
  | _, _, _, .lst hq hd, r => by
    cases r
    obtain ⟨its, rv, ⟨o, n, e, c, _, dt⟩, _⟩ := I.list hq
    obtain ⟨as, ra⟩ := DRs.reads I hd rv
    exact ⟨_, .list e c dt ra⟩
  | _, _, _, .tup hq hd, r => by
    cases r
    obtain ⟨its, rv, ⟨o, e, c, n, dt⟩, _⟩ := I.tuple hq
    obtain ⟨as, ra⟩ := DRs.reads I hd rv
    exact ⟨_, .tuple e c dt ra⟩
theorem DRs.reads (I : Inv X pins σ H s) : ∀ {vs : List V} {ds : List PyData} {us : List Value}, DRs X.K H vs ds → Vals vs us → ∃ as, ReadsAll s.heap us ds as
  | _, _, _, .nil, r => by cases r; exact ⟨_, .nil⟩
  | _, _, _, .cons h t, r => by
    cases r with
    | cons r rr =>
      obtain ⟨a1, q1⟩ := DR.reads I h r
      obtain ⟨a2, q2⟩ := DRs.reads I t rr
      exact ⟨_, .cons q1 q2⟩
end
end
def rEqD (K : PySem.W.Frag) (neg : Bool) : R2 := fun x y H Q => ∃ dx dy, DR K H x dx ∧ DR K H y dy ∧ shaped dx = true ∧ shaped dy = true ∧ Q (.bl (if neg then !PyData.eqv dx dy else PyData.eqv dx dy)) H
section
variable {X : Cx}
theorem op_neD (hu : X.A.units + 64 < cLine) : OpR X (compareOp .NotEq) (rEqD X.K true) := by
  intro pins s σ H x y v u Q I rx ry h
  obtain ⟨dx, dy, hx, hy, sx, sy, q⟩ := h
  obtain ⟨a1, r1⟩ := DR.reads I hx rx
  obtain ⟨a2, r2⟩ := DR.reads I hy ry
  exact ne_dataH r1 r2 sx sy hu ⟨.bl (!PyData.eqv dx dy), H, I, rfl, q⟩
theorem strsAre_of {ss : List Str} : ∀ {us : List Value}, Vals (ss.map V.str) us → StrsAre us ss := by
  induction ss with
  | nil => intro us r; cases r; exact .nil
  | cons a l ih =>
    intro us r
    cases r with
    | cons r rr =>
      obtain ⟨t, rfl⟩ := r
      exact .cons a t (ih rr)
theorem of_strsAre {ss : List Str} : ∀ {us : List Value}, StrsAre us ss → Vals (ss.map V.str) us := by
  induction ss with
  | nil => intro us r; cases r; exact .nil
  | cons a l ih =>
    intro us r
    cases r with
    | cons _ _ r => exact .cons ⟨_, rfl⟩ (ih r)
theorem call_sortedS : CallR X (.builtin "sorted") (fun xs H Q => ∃ p ss, xs = [.ref p] ∧ SqL X.K H p (ss.map V.str) ∧ ss.length < 64 ∧ ∀ r ss', H r = none → ss'.Perm ss → sortedS ss' = true → Q (.ref r) (upd H r (.lst (ss'.map V.str)))) := by
  intro pins s σ H xs us Q I r h
  obtain ⟨p, ss, rfl, hq, h64, q⟩ := h
  obtain ⟨u, rfl, rx⟩ := vals1 r
  cases rx
  obtain ⟨its, rv, pl, hz⟩ := I.list hq
  have hl := rv.length
  rw [List.length_map] at hl
  refine sorted_strs pl.isList (strsAre_of rv) (by omega) fun out ss' h1 h2 h3 => ?_
  obtain ⟨e, he⟩ := sortedAll_at s.heap its out
  have nz : H (s.heap.objs.size + 1) = none := I.hok.fresh (Nat.le_succ _)
  refine ⟨.ref (s.heap.objs.size + 1), _, I.laid (t' := s.toks) (a := s.heap.objs.size + 1) (o := .lst (ss'.map V.str)) (fun b o eb => sortedAll_old eb) (Nat.le_succ _) ?_, rfl, q _ ss' nz h2 h3⟩
  refine ⟨?_, out.toList, e, of_strsAre h1, by simpa using he⟩
  rw [List.length_map, h2.length_eq]
  exact Nat.le_of_lt (small1000 (by omega))
end
end L2
namespace L2
open PySem PySem.Spec PyProof.Rows
section
variable {X : Cx}
theorem sl_str : SlR X (fun x lo hi H Q => ∃ z : Str, x = .str z ∧ z.length ≤ sizeLine ∧ Q (.str (Txt.slice z lo hi)) H) := by
  intro pins s σ H x v vl vu lo hi sl Q I rx hs pl pu h
  obtain ⟨z, rfl, hz, q⟩ := h
  obtain ⟨t, rfl⟩ := rx
  refine ⟨"str", _, F.slot_str_getitem.lookup, typeIs_str _ _ _, ?_⟩
  obtain ⟨o, ho, hc, hd⟩ := hs
  have fin : ∀ t' k, EP X pins σ Q (.str (Txt.slice z lo hi) t') { s with toks := k } := fun t' k => ⟨.str (Txt.slice z lo hi), H, I.tok k, ⟨t', rfl⟩, q⟩
  cases pl with
  | none =>
    cases pu with
    | none => exact wpAny_getItem_str_slice (l := none) (u := none) (st := none) ⟨o, ho, hc, hd⟩ rfl (post_val_or_str ⟨Nat.le_trans (Txt.slice_le z _ _) hz, fin⟩)
    | int j uj => exact wpAny_getItem_str_slice (l := none) (u := some (j, uj)) (st := none) ⟨o, ho, hc, hd⟩ rfl (post_val_or_str ⟨Nat.le_trans (Txt.slice_le z _ _) hz, fin⟩)
  | int i ui =>
    cases pu with
    | none => exact wpAny_getItem_str_slice (l := some (i, ui)) (u := none) (st := none) ⟨o, ho, hc, hd⟩ rfl (post_val_or_str ⟨Nat.le_trans (Txt.slice_le z _ _) hz, fin⟩)
    | int j uj => exact wpAny_getItem_str_slice (l := some (i, ui)) (u := some (j, uj)) (st := none) ⟨o, ho, hc, hd⟩ rfl (post_val_or_str ⟨Nat.le_trans (Txt.slice_le z _ _) hz, fin⟩)
theorem call_isinst : CallR X (.builtin "isinstance") (fun xs H Q => ∃ x t c b, xs = [x, .ty c] ∧ TyOf X.K H x t ∧ PySem.W.kitOne X.K t (.type c) = some b ∧ Q (.bl b) H) := by
  intro pins s σ H xs us Q I r h
  obtain ⟨x, t, c, b, rfl, ty, e, q⟩ := h
  obtain ⟨u, w', rfl, rx, rc⟩ := vals2 r
  cases (show w' = Value.type c from rc)
  exact isinst_ok I rx ty e fun tk => ⟨.bl b, H, I.tok tk, rfl, q⟩
end
end L2
namespace L2
open PySem PySem.Spec PyProof.Rows
section
variable {X : Cx}
end
end L2
namespace L2
open PySem PySem.Spec PyProof.Rows
def StrSet (P : Program) (w : World) (h : Heap) (a : Addr) (ss : List Str) : Prop :=
  ∃ (es : Array (Int × Value)) (ep : Nat) (t : SetTable), h.get? a = some { cls := .type "set", dict := none, data := .set es ep t, slots := #[] } ∧ ElemsOf (PySem.strKind P w) es.toList ∧
    StrsAre (es.toList.map (·.2)) ss ∧ es.size < scanBound ∧ t.fits es.size = true ∧ t.led = !w.params.followText "set-order" ∧ (es.size ≠ 0 → t.plain = false)
section
variable {P : Program} {w : World} {A : Around} {E : Value → Shared → Prop} {s : Shared} {a : Addr} {ss : List Str}
end
end L2
namespace L2
open PySem PySem.Spec PyProof.Rows
theorem StrSet.at {P : Program} {w : World} {h h' : Heap} {a : Addr} {ss : List Str} (x : StrSet P w h a ss) (k : ∀ o, h.get? a = some o → h'.get? a = some o) : StrSet P w h' a ss := by
  obtain ⟨es, ep, t, ho, r⟩ := x
  exact ⟨es, ep, t, k _ ho, r⟩
def Once (val : Nat → Str) (i : Nat) (ss : List Str) : Prop := ss.Nodup ∧ ss.length ≤ i ∧ ∀ x, x ∈ ss ↔ ∃ j, j < i ∧ val j = x
theorem Once.zero (val : Nat → Str) : Once val 0 [] := ⟨List.nodup_nil, Nat.le_refl _, fun x => by simp⟩
theorem Once.next {val : Nat → Str} {i : Nat} {ss ss' : List Str} (h : Once val i ss) (e : if val i ∈ ss then ss' = ss else ss'.Perm (ss ++ [val i])) : Once val (i + 1) ss' := by
  obtain ⟨h1, h2, h3⟩ := h
  by_cases hm : val i ∈ ss
  · rw [if_pos hm] at e
    subst e
    refine ⟨h1, by omega, fun x => (h3 x).trans ⟨fun ⟨j, a, b⟩ => ⟨j, by omega, b⟩, fun ⟨j, a, b⟩ => ?_⟩⟩
    by_cases hj : j < i
    · exact ⟨j, hj, b⟩
    · have : j = i := by omega
      subst this
      subst b
      exact (h3 _).mp hm
  · rw [if_neg hm] at e
    refine ⟨e.nodup_iff.mpr ?_, ?_, fun x => ?_⟩
    · rw [List.nodup_append]
      exact ⟨h1, by simp, fun y hy z hz => by rw [List.mem_singleton] at hz; subst hz; rintro rfl; exact hm hy⟩
    · rw [e.length_eq, List.length_append]
      simpa using h2
    · rw [e.mem_iff, List.mem_append, h3 x, List.mem_singleton]
      constructor
      · rintro (⟨j, a, b⟩ | rfl)
        · exact ⟨j, by omega, b⟩
        · exact ⟨i, by omega, rfl⟩
      · rintro ⟨j, a, b⟩
        by_cases hj : j < i
        · exact .inl ⟨j, hj, b⟩
        · have : j = i := by omega
          subst this
          exact .inr b.symm
section
variable {P : Program} {w : World} {A : Around} {R : Result → Shared → Prop} {I : Addr} {fp wr : List Addr} {G : Array GenState → Array GenState → Prop} {n : Nat} {Pv : Nat → Value → Prop} {St : Nat → Shared → Prop}
end
section
variable {P : Program} {w : World} {A : Around} {E : Value → Shared → Prop} {s : Shared}
end
end L2
namespace L2
open PySem PySem.Spec PyProof.Rows
namespace FS
end FS
theorem erase_perm {α : Type} : ∀ (l : List α) (i : Nat) (x : α), l[i]? = some x → (x :: l.eraseIdx i).Perm l
  | [], i, x, h => by simp at h
  | y :: l, 0, x, h => by simp at h; subst h; exact List.Perm.refl _
  | y :: l, i + 1, x, h => by
    have q := erase_perm l i x (by simpa using h)
    rw [List.eraseIdx_cons_succ]
    exact (List.Perm.swap y x _).trans (q.cons y)
section
variable {M : Model} {A : Around} {E : Value → Shared → Prop} {s : Shared}
end
theorem pick_go {α : Type} (next : Nat → Nat) : ∀ (n k : Nat) (left : List α) (out : Array α), left.length = n → (pickOrder.go next n k left out).toList.Perm (out.toList ++ left)
  | 0, k, left, out, hl => by
    have e : left = [] := List.length_eq_zero_iff.mp hl
    subst e
    rw [pickOrder.go, List.append_nil]
  | n + 1, k, left, out, hl => by
    rw [pickOrder.go]
    have hi : next k % left.length < left.length := Nat.mod_lt _ (by omega)
    have e : left[next k % left.length]? = some left[next k % left.length] := List.getElem?_eq_getElem hi
    rw [e]
    dsimp only
    have p := erase_perm left _ _ e
    have l := p.length_eq
    simp only [List.length_cons] at l
    refine (pick_go next n (k + 1) _ _ (by omega)).trans ?_
    rw [Array.toList_push, List.append_assoc]
    exact List.Perm.append_left _ p
theorem pick_perm {α : Type} (next : Nat → Nat) (xs : Array α) : (pickOrder next xs).toList.Perm xs.toList := by
  have q := pick_go next xs.size 0 xs.toList #[] (by simp)
  simpa [pickOrder] using q
section
variable {P : Program} {w : World} {A : Around} {E : Value → Shared → Prop} {s : Shared} {a : Addr} {es : Array (Int × Value)} {ep : Nat} {t : SetTable}
end
end L2
namespace L2
open PySem PySem.Spec PyProof.Rows
abbrev sOb (es : Array (Int × Value)) (ep : Nat) (t : SetTable) : Obj := { cls := .type "set", dict := none, data := .set es ep t, slots := #[] }
section
variable {P : Program} {w : World} {A : Around} {E : Value → Shared → Prop} {s : Shared} {a I : Addr} {es : Array (Int × Value)} {ep : Nat} {t : SetTable}
end
section
variable {P : Program} {w : World} {a I : Addr} {es : Array (Int × Value)} {ep : Nat} {t : SetTable}
end
end L2
namespace L2
open PySem PySem.Spec PyProof.Rows
section
variable {P : Program} {w : World} {a I T : Addr} {es : Array (Int × Value)} {ep : Nat} {t : SetTable}
end
section
variable {P : Program} {w : World} {A : Around} {E : Value → Shared → Prop} {s : Shared} {a : Addr} {ss : List Str}
end
end L2
namespace L2
open PySem PySem.Spec PyProof.Rows
section
variable {X : Cx} {pins : List (Addr × Obj)} {σ : St} {H : Hp} {s : Shared} {h' : Heap}
theorem Inv.turnedT {t' : Nat} {d' : Drawn} {ch : List Addr} {a : Addr} {o : HO} (I : Inv X pins σ H s) (k : ∀ b u, b ∉ ch → s.heap.get? b = some u → h'.get? b = some u) (f : ∀ b ∈ ch, FpOk X pins H b) (hp : s.heap.objs.size ≤ a) (new : ObjOk X.prog X.w (upd H a o) h' a o) :
    Inv X pins σ (upd H a o) { s with heap := h', toks := t', drawn := d' } := by
  have nit : ∀ b u, H b = some u → b ∉ ch := fun b u e z => by rw [(f b z).1] at e; cases e
  have hn : H a = none := I.hok.fresh hp
  refine I.step (g' := s.gens) (d' := d') (ch := ch) (fun b hb => ?_) (fun b u _ _ hc e _ => k b u hc e) (fun b u _ _ hc e _ => ⟨u.slots, k b u hc e⟩) (fun b u _ e n => ?_) (fun b u hc e => ⟨u, k b u hc e⟩) (fun b xs q => by rw [upd_ne (ne_of_none q hn)]; exact q) (fun b u v q => by rw [upd_ne (ne_of_none q hn)]; exact q)
    (fun b ps q => ⟨#[], by rw [upd_ne (ne_of_none q hn), q]; simp⟩) (fun m hm => ?_) (fun b u e => ?_) I.bare
  · obtain ⟨_, f1, _, f3, f4, f5⟩ := f b hb
    exact ⟨f3, f1, f4, f5⟩
  · rw [upd_ne (Nat.ne_of_lt (Nat.lt_of_lt_of_le (Heap.lt_size e) hp))]; exact n
  · obtain ⟨ob, es, ep, ho, r⟩ := hm
    exact ⟨ob, es, ep, k _ ob (fun z => (f _ z).2.1 rfl) ho, r⟩
  · by_cases hb : b = a
    · subst hb; rw [upd_same] at e; cases e; exact new
    · rw [upd_ne hb] at e
      refine (I.hok b u e).stay (fun c v hc q => k c v ?_ q) (fun c q => by rw [upd_ne (ne_of_none q hn)]; exact q) fun c xs q => by rw [upd_ne (ne_of_none q hn)]; exact q
      rcases hc with z | z
      · rw [z]; exact nit b u e
      · exact nit c _ z
end
section
variable {P : Program} {w : World} {A : Around} {E : Value → Shared → Prop} {s : Shared} {a : Addr} {ss : List Str}
end
section
variable {X : Cx}
end
end L2
namespace L2
open PySem PySem.Spec PyProof.Rows
section
variable {X : Cx} {pins : List (Addr × Obj)} {σ : St} {H : Hp} {s : Shared} {h' : Heap}
theorem Inv.turnedL {t' : Nat} {ch : List Addr} (I : Inv X pins σ H s) (k : ∀ b u, b ∉ ch → s.heap.get? b = some u → h'.get? b = some u) (f : ∀ b ∈ ch, FpOk X pins H b) : Inv X pins σ H { s with heap := h', toks := t' } := by
  have nit : ∀ b u, H b = some u → b ∉ ch := fun b u e z => by rw [(f b z).1] at e; cases e
  refine I.step (g' := s.gens) (d' := s.drawn) (ch := ch) (fun b hb => ?_) (fun b u _ _ hc e _ => k b u hc e) (fun b u _ _ hc e _ => ⟨u.slots, k b u hc e⟩) (fun b u _ e n => n) (fun b u hc e => ⟨u, k b u hc e⟩) (fun b xs q => q) (fun b u v q => q) (fun b ps q => ⟨#[], by rw [q]; simp⟩) (fun m hm => ?_) (fun b u e => ?_) I.bare
  · obtain ⟨_, f1, _, f3, f4, f5⟩ := f b hb
    exact ⟨f3, f1, f4, f5⟩
  · obtain ⟨ob, es, ep, ho, r⟩ := hm
    exact ⟨ob, es, ep, k _ ob (fun z => (f _ z).2.1 rfl) ho, r⟩
  · refine (I.hok b u e).stay (fun c v hc q => k c v ?_ q) (fun c q => q) fun c xs q => q
    rcases hc with z | z
    · rw [z]; exact nit b u e
    · exact nit c _ z
end
def Itp (n : Nat) (Ls : Hp → Prop) (xv : Nat → List V) : It := ⟨fun i H => Ls H ∧ i < n, fun i H x H' => ∃ T, H T = none ∧ H' = upd H T (.tup (xv i)) ∧ x = .ref T, fun i H => Ls H ∧ i = n⟩
theorem turn_walkT {P : Program} {w : World} {K : PySem.W.Frag} {elts : List Expr} {ct : Nat} {pos : Pos} (it : Addr) (fp fpW wr : List Addr) (n : Nat) (Ls : Hp → Prop) (xv : Nat → List V) (tn : Nat → Heap → Prop)
    (hit : it ∈ fp) (hwr : ∀ b ∈ wr, b ∈ fp) (hobj : ∀ i h, tn i h → ∀ b ∈ fp, ∃ o, h.get? b = some o ∧ ∀ v, o.data ≠ .cell v) (hkeep : ∀ i h h', tn i h → (∀ b ∈ fp, ∀ o, h.get? b = some o → h'.get? b = some o) → tn i h')
    (hx : ∀ i, (xv i).length ≤ sizeLine)
    (W : ∀ (X : Cx), X.prog = P → X.w = w → X.K = K → X.calm = true → ∀ (pins : List (Addr × Obj)) (s : Shared) (σ : L2.St) (H : Hp), Inv X pins σ H s → Ls H → ∃ (Pt : Nat → Array Value → Prop) (St : Nat → Heap → Prop) (Mid : Nat → Addr → Heap → Prop), WalksT P w X.A it fpW wr n Pt St Mid ∧ (∀ i, tn i s.heap → St i s.heap) ∧ (∀ i h, St i h → tn i h) ∧
      (∀ i vals, Pt i vals → Vals (xv i) vals.toList))
    (hself : ∀ (A : Around) (i : Nat) (s : Shared) (Q : Value → Shared → Prop) (E : Value → Shared → Prop), tn i s.heap → Q (.ref it) s → wpAny (model P w) A (pyIter (.ref it)) Q E s) : Turn P w K (.Tuple elts ct pos) (Itp n Ls xv) fp it tn where
  mem := hit
  obj := hobj
  keep := hkeep
  item := by
    intro X hP hw hK hc i pins s σ H E I hf st hg
    obtain ⟨hL, hi⟩ := hg
    obtain ⟨Pt, St, Mid, Wt, w1, w2, w3⟩ := W X hP hw hK hc pins s σ H I hL
    subst hP hw hK
    refine Wt.item i s _ _ hi (w1 i st) fun T vals h1 tk pv hT ht mid k1 => ?_
    have hTw : T ∉ wr := Wt.apart i T h1 mid
    refine ⟨_, rfl, Wt.go elts ct pos i T _ _ _ mid fun h2 st2 k2 => ?_⟩
    have ht2 : IsTup h2 T (vals.toList).toArray := by
      obtain ⟨o, a1, a2, nn, a3⟩ := ht
      exact ⟨o, k2 _ _ hTw a1, a2, nn, by simpa using a3⟩
    refine ⟨.ref T, upd H T (.tup (xv i)), I.turnedT (t' := tk) (d' := s.drawn) (ch := wr) (fun b u hb e => k2 b u hb (k1 b u hb e)) (fun b hb => hf b (hwr b hb)) hT ⟨hx i, vals.toList, w3 i vals pv, ht2⟩, rfl, ⟨T, I.hok.fresh hT, rfl, rfl⟩, w2 _ _ st2, fun b hb => ?_⟩
    have e : b ≠ T := by
      obtain ⟨o, ho, _⟩ := hobj i _ st b hb
      exact Nat.ne_of_lt (Nat.lt_of_lt_of_le (Heap.lt_size ho) hT)
    rw [upd_ne e]
    exact (hf b hb).1
  done := by
    intro X hP hw hK hc i pins s σ H E I hf st hg
    obtain ⟨hL, hi⟩ := hg
    obtain ⟨Pt, St, Mid, Wt, w1, w2, w3⟩ := W X hP hw hK hc pins s σ H I hL
    subst hP hw hK hi
    exact Wt.done s _ _ (w1 _ st) fun h1 tk k1 => ⟨rfl, I.turnedL (ch := wr) (fun b u hb e => k1 b u hb e) fun b hb => hf b (hwr b hb)⟩
  self := hself
section
variable {X : Cx}
end
section
variable {σ0 : St} {g : TG} {tt : TT} {te : TE} {Q : List V → Hp → Prop} {H1 : Hp}
theorem turns_tup {n : Nat} {Ls : Hp → Prop} {xv : Nat → List V} (Pv : Nat → List V → Hp → Prop) (h0 : Pv 0 [] H1) (hl : ∀ i ys H, i ≤ n → Pv i ys H → Ls H)
    (hs : ∀ i ys H T, i < n → Pv i ys H → H T = none → g (.ref T) σ0 (upd H T (.tup (xv i))) fun σ2 H2 => Sle σ0 σ2 ∧ tt σ2 H2 fun b H3 => if b = true then te σ2 H3 (fun v H4 => ys.length < sizeLine ∧ Nxt n i Pv (ys ++ [v]) H4) else Nxt n i Pv ys H3)
    (hd : ∀ ys H, Pv n ys H → Q ys H) : cTurns (Itp n Ls xv) σ0 g tt te Q H1 := by
  refine ⟨fun i m ys H => m = n - i ∧ i ≤ n ∧ Pv i ys H, ⟨n, by simp, Nat.zero_le _, h0⟩, ?_⟩
  rintro i m ys H ⟨rfl, hi, p⟩
  have q := hl i ys H hi p
  by_cases hlt : i < n
  · refine .inr ⟨⟨q, hlt⟩, fun x H' y => ?_⟩
    obtain ⟨T, e1, e2, e3⟩ := y
    subst e2 e3
    exact hs i ys H T hlt p e1
  · have e : i = n := by omega
    subst e
    exact .inl ⟨⟨q, rfl⟩, hd ys H p⟩
end
end L2
namespace L2
open PySem PySem.Spec PyProof.Rows
section
variable {X : Cx} {pins : List (Addr × Obj)} {σ : St} {H H' : Hp} {s : Shared}
end
def compShape (tpos : Pos) (it : Value) (target : Expr) (env : Env) (ifs : List Expr) (body : Sem Unit) (k : Sem Fin) : Sem Fin := do
  standAt tpos
  match ← pyNext it with
  | none => pure (.done .next)
  | some v =>
    letOwnedTupleGo target it v
    assign target env v
    let mut ok := true
    for c in ifs do
      if ok then ok ← isTrue c env (eval c env)
    if ok then
      body
    k
section
variable {AS : Type}
abbrev TB (AS : Type) := AS → St → Hp → (AS → St → Hp → Prop) → Prop
end
end L2
namespace L2
open PySem PySem.Spec PyProof.Rows
section
variable {X : Cx} {pins : List (Addr × Obj)} {σ : St} {H : Hp} {s : Shared} {AS : Type}
end
end L2
namespace L2
open PySem PySem.Spec PyProof.Rows
def StrObj (P : Program) (w : World) (ss : List Str) (o : Obj) : Prop :=
  ∃ (es : Array (Int × Value)) (ep : Nat) (t : SetTable), o = sOb es ep t ∧ ElemsOf (PySem.strKind P w) es.toList ∧ StrsAre (es.toList.map (·.2)) ss ∧ es.size < scanBound ∧ t.fits es.size = true ∧ t.led = !w.params.followText "set-order" ∧ (es.size ≠ 0 → t.plain = false)
theorem StrObj.set {P : Program} {w : World} {ss : List Str} {o : Obj} {h : Heap} {a : Addr} (x : StrObj P w ss o) (e : h.get? a = some o) : StrSet P w h a ss := by
  obtain ⟨es, ep, t, rfl, r⟩ := x
  exact ⟨es, ep, t, e, r⟩
theorem StrSet.obj {P : Program} {w : World} {ss : List Str} {h : Heap} {a : Addr} (x : StrSet P w h a ss) : ∃ o, h.get? a = some o ∧ StrObj P w ss o := by
  obtain ⟨es, ep, t, e, r⟩ := x
  exact ⟨_, e, es, ep, t, rfl, r⟩
end L2
namespace L2
open PySem PySem.Spec PyProof.Rows
structure GC (P : Program) (w : World) {AS : Type} (e target iter : Expr) (ifs : List Expr) (scope : Scope) (tpos : Pos) (newAcc : Sem Value) (body : Addr → Env → Sem Unit) (o0 : Obj) (a0 : AS) (AO : AS → Obj → Prop) (HOf : Addr → AS → HO) : Prop where
  new : ∀ (A : Around) (s : Shared) (Q : Value → Shared → Prop) (E : Value → Shared → Prop), Q (.ref s.heap.objs.size) { s with heap := s.heap.push o0 } → wpAny (model P w) A newAcc Q E s
  nf : o0.isFreed = false
  nc : ∀ a o, AO a o → ∀ v, o.data ≠ .cell v
  hA0 : AO a0 o0
  hHO : ∀ (H' : Hp) (h : Heap) (acc : Addr) (a : AS) (o : Obj), sysModules < acc → AO a o → h.get? acc = some o → ObjOk P w H' h acc (HOf acc a)
  cl : ∃ gs, clausesOf e = ⟨target, iter, ifs, 0⟩ :: gs
  dnS : ∀ (it acc : Value) (env : Env) (A : Around) (Q : PySem.Fin → Shared → Prop) (E : Value → Shared → Prop) (s : Shared), wpAny (model P w) A ((compStart e 0 it acc env).onRaise (fun x => do noteFrame x env; standAt theWindowsPlace)) Q E s → wpAny (model P w) (A.under (.compStart e 0 it acc env)) ((model P w).den (.compStart e 0 it acc env)) Q E s
  dnL : ∀ (it acc : Value) (env : Env) (A : Around) (Q : PySem.Fin → Shared → Prop) (E : Value → Shared → Prop) (s : Shared), wpAny (model P w) A ((compTurn e 0 it acc env).onRaise (fun x => do noteFrame x env; theTreesLotGoes x)) Q E s → wpAny (model P w) (A.under (.compLoop e 0 it acc env)) ((model P w).den (.compLoop e 0 it acc env)) Q E s
  q : ∀ it acc env, (Code.compLoop e 0 it acc env).quiet = true
  sh : ∀ (it acc : Addr) (env : Env), compTurn e 0 (.ref it) (.ref acc) env = compShape tpos (.ref it) target env ifs (body acc env) (again (.compLoop e 0 (.ref it) (.ref acc) env))
section
variable {X : Cx} {AS : Type} {e target iter : Expr} {ifs : List Expr} {scope sc : Scope} {pos tpos cpos : Pos} {N N' : List Str} {sub : List (Option Nat)} {wi : TI} {g : TG} {tt : TT} {tb : TB AS} {newAcc : Sem Value} {body : Addr → Env → Sem Unit} {o0 : Obj} {a0 : AS} {AO : AS → Obj → Prop} {HOf : Addr → AS → HO}
end
section
variable {P : Program} {w : World} {target iter target2 iter2 elt kx vx : Expr} {ifs ifs2 : List Expr} {scope : Scope} {pos : Pos}
end
end L2
namespace L2
open PySem PySem.Spec PyProof.Rows
end L2
namespace L2
open PySem PySem.Spec PyProof.Rows
end L2
namespace L2
open PySem PySem.Spec PyProof.Rows
section
variable {X : Cx}
end
end L2
namespace L2
open PySem PySem.Spec PyProof.Rows PySem.W
abbrev Rng (n : Nat) : Array Nat := List.toArray (List.range n)
def Gd (n : Nat) (p : Array Nat) : Prop := p.Perm (Rng n)
theorem Gd.lt {n : Nat} {p : Array Nat} (h : Gd n p) (h0 : 0 < n) (i : Nat) : p.getD i 0 < n := by
  by_cases hi : i < p.size
  · have e : p.getD i 0 = p[i] := by simp [Array.getD, hi]
    rw [e]
    have m : p[i] ∈ p.toList := by simp
    have m2 := (Array.perm_iff_toList_perm.mp h).mem_iff.mp m
    simpa using m2
  · have e : p.getD i 0 = 0 := by simp [Array.getD, hi]
    rw [e]; exact h0
theorem Gd.rev {n : Nat} {p : Array Nat} (h : Gd n p) (i j : Nat) : Gd n (kas_rev p i j) := (mirror_perm _ _ _ _).trans h
section
variable {n : Nat} {cmp : Nat → Nat → (Bool → Shared → Prop) → Shared → Prop} {s : Shared} (hask : ∀ i j C, i < n → j < n → (∀ b, C b s) → cmp i j C s) (h0 : 0 < n)
include hask h0
end
section
variable {P : Program} {w : World} {A : Around} {E : Value → Shared → Prop} {s : Shared}
end
end L2
namespace L2
open PySem PySem.Spec PyProof.Rows PySem.W
section
variable {X : Cx}
end
end L2
namespace L2
open PySem PySem.Spec PyProof.Rows PySem.W
section
variable {AS : Type} {g : TG} {tt : TT} {tb : TB AS} {Q : AS → St → Hp → Prop} {a0 : AS} {σ0 : St} {H0 : Hp}
end
section
variable {X : Cx}
theorem call_range1' : CallR X (.type "range") (fun xs H Q => ∃ j : Int, xs = [.int j] ∧ 0 ≤ j ∧ j ≤ 1000 ∧ ∀ r, H r = none → Q (.ref r) (upd H r (.rng 0 j))) := by
  intro pins s σ H xs us Q I r h
  obtain ⟨j, rfl, h0, h1, q⟩ := h
  obtain ⟨u, rfl, t, rfl⟩ := vals1 r
  refine call_range_1 ?_
  exact ⟨.ref s.heap.objs.size, _, I.laid (a := s.heap.objs.size) (o := .rng 0 j) (fun b o e => Heap.get?_push_of_some _ e) (Nat.le_refl _) ⟨_, _, _, Heap.get?_push_size _ rfl⟩, rfl, q _ (I.hok.fresh (Nat.le_refl _))⟩
end
end L2
namespace L2
open PySem PySem.Spec PyProof.Rows PySem.W
structure Ordr (lt : Nat → Nat → Bool) : Prop where
  asym : ∀ a b, lt a b = true → lt b a = false
  tr : ∀ a b c, lt b a = false → lt c b = false → lt c a = false
def SPk (lt : Nat → Nat → Bool) (p : Array Nat) (k : Nat) : Prop := ∀ i j, i < j → j < k → lt (p.getD j 0) (p.getD i 0) = false
def DPk (lt : Nat → Nat → Bool) (p : Array Nat) (k : Nat) : Prop := ∀ i j, i < j → j < k → lt (p.getD i 0) (p.getD j 0) = false
def ERk (lt : Nat → Nat → Bool) (p : Array Nat) (a b : Nat) : Prop := ∀ i j, a ≤ i → i < b → a ≤ j → j < b → lt (p.getD i 0) (p.getD j 0) = false
theorem Gd.size {n : Nat} {p : Array Nat} (h : Gd n p) : p.size = n := by
  have := Array.Perm.size_eq h
  simpa using this
theorem rev_at {p : Array Nat} {i j : Nat} (hj : j ≤ p.size) (k : Nat) : (kas_rev p i j).getD k 0 = if i ≤ k ∧ k < j then p.getD (i + j - 1 - k) 0 else p.getD k 0 := by
  unfold kas_rev
  rw [Array.getD_eq_getD_getElem?, getElem?_mirror_all hj]
  split <;> rw [← Array.getD_eq_getD_getElem?]
section
variable {lt : Nat → Nat → Bool} (o : Ordr lt)
include o
theorem SPk.snoc {p : Array Nat} {k : Nat} (h : SPk lt p k) (h1 : 1 ≤ k) (hk : lt (p.getD k 0) (p.getD (k - 1) 0) = false) : SPk lt p (k + 1) := fun i j hij hj => by
  by_cases e : j = k
  · subst e
    by_cases e2 : i = j - 1
    · subst e2; exact hk
    · exact o.tr _ _ _ (h i (j - 1) (by omega) (by omega)) hk
  · exact h i j hij (by omega)
theorem DPk.snoc {p : Array Nat} {k : Nat} (h : DPk lt p k) (h1 : 1 ≤ k) (hk : lt (p.getD (k - 1) 0) (p.getD k 0) = false) : DPk lt p (k + 1) := fun i j hij hj => by
  by_cases e : j = k
  · subst e
    by_cases e2 : i = j - 1
    · subst e2; exact hk
    · exact o.tr _ _ _ hk (h i (j - 1) (by omega) (by omega))
  · exact h i j hij (by omega)
omit o in
theorem DPk.rev {p : Array Nat} {a b k : Nat} (h : DPk lt p k) (hb : b ≤ p.size) (hbk : b ≤ k) (e : ERk lt p a b) : DPk lt (kas_rev p a b) k := fun i j hij hj => by
  rw [rev_at hb, rev_at hb]
  split
  · split
    · exact e _ _ (by omega) (by omega) (by omega) (by omega)
    · exact h _ _ (by omega) (by omega)
  · split
    · exact h _ _ (by omega) (by omega)
    · exact h _ _ (by omega) (by omega)
omit o in
theorem DPk.turn {p : Array Nat} {k : Nat} (h : DPk lt p k) (hk : k ≤ p.size) : SPk lt (kas_rev p 0 k) k := fun i j hij hj => by
  rw [rev_at hk, rev_at hk, if_pos (by omega), if_pos (by omega)]
  exact h _ _ (by omega) (by omega)
variable {n : Nat} {cmp : Nat → Nat → (Bool → Shared → Prop) → Shared → Prop} {s : Shared} (hask : ∀ i j C, i < n → j < n → C (lt i j) s → cmp i j C s) (h0 : 0 < n)
include hask h0
end
end L2
namespace L2
open PySem PySem.Spec PyProof.Rows PySem.W
section
variable {P : Program} {w : World} {A : Around} {E : Value → Shared → Prop} {s : Shared}
end
end L2
namespace L2
open PySem PySem.Spec PyProof.Rows PySem.W
section
variable {X : Cx}
end
end L2
namespace L2
open PySem PySem.Spec PyProof.Rows PySem.W
open AutoSeq1 (wpAny_loadPart')
open MeetsSeq MeetsSeq2 MeetsSeq3 SeqRoads2
end L2
namespace L2
open PySem PySem.Spec PyProof.Rows PySem.W
section
variable {P : Program} {w : World} {A : Around} {E : Value → Shared → Prop} {s : Shared}
end
section
variable {X : Cx}
end
end L2
namespace L2
open PySem PySem.Spec PyProof.Rows
section
variable {P : Program} {w : World} {target iter target2 iter2 elt : Expr} {ifs ifs2 : List Expr} {scope : Scope} {pos : Pos}
end
end L2
namespace L2
open PySem PySem.Spec PyProof.Rows PySem.W
end L2
namespace L2
open PySem PySem.Spec PyProof.Rows
section
variable {X : Cx}
theorem ints_of {ns : List Int} : ∀ {us : List Value}, Vals (ns.map V.int) us → ∃ xs : List (Int × Tok), us = xs.map (fun p => Value.int p.1 p.2) ∧ xs.map (·.1) = ns := by
  induction ns with
  | nil => intro us r; cases r; exact ⟨[], rfl, rfl⟩
  | cons a l ih =>
    intro us r
    cases r with
    | cons r rr =>
      obtain ⟨t, rfl⟩ := r
      obtain ⟨xs, rfl, rfl⟩ := ih rr
      exact ⟨(a, t) :: xs, rfl, rfl⟩
theorem call_sumI (hc : X.calm = true) : CallR X (.builtin "sum") (fun xs H Q => ∃ (p : Addr) (ns : List Int), xs = [.ref p] ∧ SqL X.K H p (ns.map V.int) ∧ Q (.int ns.sum) H) := by
  intro pins s σ H xs us Q I r h
  obtain ⟨p, ns, rfl, hq, q⟩ := h
  obtain ⟨u, rfl, rx⟩ := vals1 r
  cases rx
  obtain ⟨its, rv, pl, hz⟩ := I.list hq
  obtain ⟨ys, rfl, rfl⟩ := ints_of rv
  have e : (ys.map (fun p => Value.int p.1 p.2)).toArray = intItems ys.toArray := by unfold intItems; simp
  have pl' := pl.isList
  rw [e] at pl'
  refine sum_intListG (I.ok.hd hc) pl' fun h' tk t' hk => ⟨.int _, H, I.kept (t' := tk) hk, ⟨t', rfl⟩, ?_⟩
  rw [preSum_eq, List.take_of_length_le (by simp)]
  exact q
theorem intsAre_ofV {ns : List Int} : ∀ {us : List Value}, Vals (ns.map V.int) us → IntsAre us ns := by
  induction ns with
  | nil => intro us r; cases r; exact .nil
  | cons a l ih =>
    intro us r
    cases r with
    | cons r rr =>
      obtain ⟨t, rfl⟩ := r
      exact .cons a t (ih rr)
theorem of_intsAre {ns : List Int} : ∀ {us : List Value}, IntsAre us ns → Vals (ns.map V.int) us := by
  induction ns with
  | nil => intro us r; cases r; exact .nil
  | cons a l ih =>
    intro us r
    cases r with
    | cons _ _ r => exact .cons ⟨_, rfl⟩ (ih r)
def tSortRev (K : PySem.W.Frag) (t : TA) : TE := fun σ H Q => t σ H fun vs H1 => ∃ (p : Addr) (ns : List Int), vs = [.ref p] ∧ SqL K H1 p (ns.map V.int) ∧ ns.length < 64 ∧ ∀ (r : Addr) (ns' : List Int), H1 r = none → ns'.Perm ns → Ordered true ns' → Q (.ref r) (upd H1 r (.lst (ns'.map V.int)))
theorem pe_sortRev {e : Expr} {t : TA} {p pos kp cp : Pos} {j : Nat} (hg : Gl X "sorted") (hm : X.mg "sorted" = none) (ha : PA X [e] t)
    (he : backTo pos (starEach [e] X.env) = (false, eval e X.env) :: backTo pos (starEach [] X.env) := by rfl)
    (hplain : (backTo pos (starEach [e] X.env)).any (·.1) = false := by rfl) : PE X (.Call (.Name "sorted" p) [e] [⟨some "reverse", .Constant (.bool true) j cp, kp⟩] pos) (tSortRev X.K t) := by
  intro pins s σ H Q I h
  refine wpAny_Call_Name_kw (ld_blt I hg hm (by decide +kernel : bootBuiltins "sorted" = some (.builtin "sorted")) ?_ (by decide) (by decide))
  refine PyProof.Rows.callWith_kw (thn (ha pos pins s σ H _ I h) fun us s1 ⟨vs, H1, I1, r1, q1⟩ => ?_) he hplain
  obtain ⟨a, ns, rfl, hq, h64, q⟩ := q1
  obtain ⟨u, rfl, rx⟩ := vals1 r1
  cases rx
  refine PyProof.Rows.kws_cons (Constant_bool (PyProof.Rows.kws_nil ?_))
  obtain ⟨its, rv, pl, hz⟩ := I1.list hq
  have hl := rv.length
  rw [List.length_map] at hl
  refine sorted_ints_rev (b := true) pl.isList (intsAre_ofV rv) (by omega) fun out ns' h1 h2 h3 => ?_
  obtain ⟨e, he⟩ := sortedAll_at s1.heap its out
  have nz : H1 (s1.heap.objs.size + 1) = none := I1.hok.fresh (Nat.le_succ _)
  refine ⟨.ref (s1.heap.objs.size + 1), _, I1.laid (t' := s1.toks) (a := s1.heap.objs.size + 1) (o := .lst (ns'.map V.int)) (fun b o eb => sortedAll_old eb) (Nat.le_succ _) ?_, rfl, q _ ns' nz h2 h3⟩
  refine ⟨?_, out.toList, e, of_intsAre h1, by simpa using he⟩
  rw [List.length_map, h2.length_eq]
  exact Nat.le_of_lt (small1000 (by omega))
end
end L2
namespace L2
open PySem PySem.Spec PyProof.Rows
section
variable {X : Cx}
def iEnum (K : PySem.W.Frag) (ta : TA) : TI := fun σ H R => ta σ H fun vs H1 => ∃ (a : Addr) (xs : List V), vs = [.ref a] ∧ SqL K H1 a xs ∧ R (Itp xs.length (fun H => SqL K H a xs) (fun i => [.int (i : Nat), xs.getD i .non])) H1
theorem boot_enum : bootBuiltins "enumerate" = some (.type "enumerate") := by decide +kernel
theorem pi_enum {a : Expr} {ta : TA} {p pos tpos : Pos} {elts : List Expr} {ct : Nat} (hg : Gl X "enumerate") (hm : X.mg "enumerate" = none) (ha : PA X [a] ta) (hs : starEach [a] X.env = [(false, eval a X.env)] := by rfl) :
    PI X (.Tuple elts ct tpos) (.Call (.Name "enumerate" p) [a] [] pos) (iEnum X.K ta) := by
  intro pins s σ H R I h
  refine Call_ (ld_blt I hg hm boot_enum (PyProof.Rows.callWith_type1 (thn (ha pos pins s σ H _ I h) fun us s1 ⟨vs, H1, I1, r1, q1⟩ => ?_) (by rw [hs]; rfl) (by rfl)))
  obtain ⟨l, xs, e, hx, q⟩ := q1
  subst e
  obtain ⟨u, rfl, rx⟩ := vals1 r1
  cases rx
  obtain ⟨it1, rv1, pl1, hz1⟩ := I1.list hx
  have b1 : l < s1.heap.objs.size := by obtain ⟨o, n, e, _⟩ := pl1; exact Heap.lt_size e
  refine call_enumerate_list pl1.isList fun h1 z1 z2 z3 z7 => ?_
  refine wpAny_pyIter_enum z1 ?_
  have hfp : ∀ b ∈ [s1.heap.objs.size + 1, s1.heap.objs.size], s1.heap.objs.size ≤ b := fun b hb => by
    simp only [List.mem_cons, List.not_mem_nil, or_false] at hb
    rcases hb with rfl | rfl
    · exact Nat.le_add_right _ _
    · exact Nat.le_refl _
  refine ⟨s1.heap.objs.size + 1, [s1.heap.objs.size + 1, s1.heap.objs.size],
    fun i h => (∃ old, IsEnum h (s1.heap.objs.size + 1) s1.heap.objs.size i old) ∧ h.IsListIter s1.heap.objs.size l i,
    _, H1, rfl, I1.kept (t' := s1.toks) z7,
    turn_walkT (s1.heap.objs.size + 1) _ [s1.heap.objs.size + 1, s1.heap.objs.size, l] [s1.heap.objs.size + 1, s1.heap.objs.size] _ _ _ _ (by simp) (fun b hb => hb) (fun i h st b hb => ?_) (fun i h h' st k => ?_) (fun i => by show 2 ≤ sizeLine; decide) ?_ (fun A i s' Q E st hQ => by
      obtain ⟨⟨old, he⟩, _⟩ := st
      exact wpAny_pyIter_enum he hQ),
    ⟨⟨_, z1⟩, z2⟩, fun b hb => I1.fpOk (hfp b hb) (I1.hok.fresh (hfp b hb)), q⟩
  · obtain ⟨⟨old, a1⟩, ⟨o4, a4, c4, d4⟩⟩ := st
    simp only [List.mem_cons, List.not_mem_nil, or_false] at hb
    rcases hb with rfl | rfl
    · exact ⟨_, a1, fun v z => by cases z⟩
    · exact ⟨_, a4, fun v z => by rw [d4] at z; cases z⟩
  · obtain ⟨⟨old, a1⟩, a4⟩ := st
    exact ⟨⟨old, k _ (by simp) _ a1⟩, a4.at fun o e => k _ (by simp) o e⟩
  · intro X' hP hw hK hc pins' s' σ' H' I' hL
    rw [← hK] at hL
    obtain ⟨jt1, sv1, ql1, _⟩ := I'.list hL
    have m1 := sv1.length
    have ne1 : l ≠ s1.heap.objs.size := Nat.ne_of_lt b1
    have Wz := WalksT.enumerateD (A := X'.A) (Draws.list (prog := X.prog) (w := X.w) (A := X'.A.in1) (I'.ok.hd hc) s1.heap.objs.size l ne1 jt1.toArray) (s1.heap.objs.size + 1) (Nat.succ_ne_self _) (fun z => by
      simp only [List.mem_cons, List.not_mem_nil, or_false] at z
      rcases z with z | z
      · exact Nat.succ_ne_self _ z
      · exact absurd b1 (by rw [← z]; exact Nat.not_lt_of_le (Nat.le_succ _))) (by simp)
    rw [show jt1.toArray.size = xs.length by show jt1.length = _; rw [m1]] at Wz
    refine ⟨_, _, _, Wz, fun i st => ?_, fun i h st => ?_, fun i vals pv => ?_⟩
    · exact ⟨st.1, st.2, ql1.isList⟩
    · exact ⟨st.1, st.2.1⟩
    · obtain ⟨t, x, e1, rfl⟩ := pv
      have e1 : jt1[i]? = some x := by simpa using e1
      have c1 : i < xs.length := by rw [m1]; exact (List.getElem?_eq_some_iff.mp e1).1
      obtain ⟨u, d1, d2⟩ := sv1.get (List.getElem?_eq_getElem c1)
      rw [e1] at d1
      cases d1
      show Vals [.int (i : Nat), xs.getD i .non] [.int i t, x]
      rw [List.getD_eq_getElem?_getD, List.getElem?_eq_getElem c1]
      exact .cons ⟨t, rfl⟩ (.cons d2 .nil)
end
end L2
namespace L2
open PySem PySem.Spec PyProof.Rows
section
variable {X : Cx}
end
end L2
namespace L2
open PySem PySem.Spec PyProof.Rows PySem.SeqAt PySem.MeetsSeq
section
variable {X : Cx}
end
end L2
namespace L2
open PySem PySem.Spec PyProof.Rows
section
variable {X : Cx} {k : Nat} {f : Addr} {fd : FuncData} {ps : List Str} {sp : Sp} {E : XK}
structure Aw (X : Cx) (pins : List (Addr × Obj)) (a : Addr) : Prop where
  loc : a ≠ X.env.locals
  ab : X.s₀.heap.objs.size ≤ a
  cel : ∀ x c, X.env.cells.lookup x = some c → c ≠ a
  pin : ∀ p ∈ X.pn ++ pins, p.1 ≠ a
  fs : a ∉ X.fs
theorem Inv.aw {pins : List (Addr × Obj)} {σ : St} {H : Hp} {s : Shared} (I : Inv X pins σ H s) {a : Addr} (h : s.heap.objs.size ≤ a) : Aw X pins a := by
  refine ⟨Nat.ne_of_gt (Nat.lt_of_lt_of_le I.lt h), Nat.le_trans I.sz h, fun x c e => ?_, fun p hp => ?_, I.nofs h⟩
  · obtain ⟨v, o, ho, _⟩ := I.cell x c e
    exact Nat.ne_of_lt (Nat.lt_of_lt_of_le (Heap.lt_size ho) h)
  · exact Nat.ne_of_lt (Nat.lt_of_lt_of_le (Heap.lt_size (I.pin p hp).1) h)
theorem Inv.adopt {pins : List (Addr × Obj)} {σ : St} {H : Hp} {s : Shared} {a : Addr} {ys : List V} {its : List Value} {n : Nat} (I : Inv X pins σ H s) (w : Aw X pins a) (hn : H a = none) (hv : Vals ys its) (hz : ys.length ≤ sizeLine)
    (e : s.heap.get? a = some { cls := .type "list", data := .seq its.toArray n }) : Inv X pins σ (upd H a (.lst ys)) s := by
  refine ⟨I.ok, I.os, I.bare, ⟨I.base.keep, I.base.slot, fun b o q n' hx => ?_, I.base.there, fun b xs q => ?_, fun b o u q => ?_, fun b ps q => ?_⟩, I.loc, I.cell, ?_, fun x c q => ?_, fun p hp => ?_, fun b u q => ?_, I.len⟩
  · rw [upd_ne (Nat.ne_of_lt (Nat.lt_of_lt_of_le (Heap.lt_size q) w.ab))]; exact I.base.free b o q n' hx
  · have := I.base.tups b xs q
    rw [upd_ne (ne_of_none this hn)]; exact this
  · have := I.base.frzs b o u q
    rw [upd_ne (ne_of_none this hn)]; exact this
  · obtain ⟨m, this⟩ := I.base.tbls b ps q
    exact ⟨m, by rw [upd_ne (ne_of_none this hn)]; exact this⟩
  · rw [upd_ne (Ne.symm w.loc)]; exact I.free
  · rw [upd_ne (w.cel x c q)]; exact I.freeC x c q
  · obtain ⟨h1, h2, h3⟩ := I.pin p hp
    exact ⟨h1, by rw [upd_ne (w.pin p hp)]; exact h2, h3⟩
  · by_cases hb : b = a
    · subst hb
      rw [upd_same] at q; cases q
      exact ⟨hz, its, n, hv, e⟩
    · rw [upd_ne hb] at q
      exact (I.hok b u q).stay (fun c v _ r => r) (fun c r => by rw [upd_ne (ne_of_none r hn)]; exact r) fun c xs r => by rw [upd_ne (ne_of_none r hn)]; exact r
theorem Inv.repinL {pins : List (Addr × Obj)} {σ : St} {H : Hp} {s : Shared} {a : Addr} {its : Array Value} {n : Nat} (f : Array Value → Array Value) (I : Inv X pins σ H s) (w : Aw X pins a) (hn : H a = none) (e : s.heap.get? a = some (seqObj "list" its n)) :
    ∃ n', Inv X pins σ H { s with heap := s.heap.update a (Obj.mapSeq f) } ∧ (s.heap.update a (Obj.mapSeq f)).get? a = some (seqObj "list" (f its) n') := by
  obtain ⟨c, hc⟩ : ∃ c, (s.heap.update a (Obj.mapSeq f)).get? a = some (seqObj "list" (f its) c) := ⟨_, get?_update_seq e f⟩
  refine ⟨c, ?_, hc⟩
  exact I.turned (t' := s.toks) (it := a) (fun b o hb q => (Heap.get?_update_other s.heap _ (Ne.symm hb)).trans q) hn w.loc (.inr w.ab) w.cel w.pin
theorem Inv.pinL {pins : List (Addr × Obj)} {σ : St} {H : Hp} {s : Shared} {a : Addr} {its : Array Value} {n : Nat} (I : Inv X pins σ H s) (w : Aw X pins a) (hn : H a = none) (e : s.heap.get? a = some (seqObj "list" its n)) :
    Inv X ((a, seqObj "list" its n) :: pins) σ H s := I.pins_of fun p hp => by
  rcases List.mem_cons.mp hp with rfl | hp
  · exact ⟨e, hn, w.loc, w.fs, fun v q => by cases q⟩
  · exact I.pin p (List.mem_append_right _ hp)
theorem Inv.unpin {pins : List (Addr × Obj)} {σ : St} {H : Hp} {s : Shared} {q : Addr × Obj} (I : Inv X (q :: pins) σ H s) : Inv X pins σ H s := I.pins_of fun p hp => I.pin p (List.mem_append_right _ (List.mem_cons_of_mem _ hp))
theorem Aw.cons {pins : List (Addr × Obj)} {a b : Addr} {o : Obj} (w : Aw X pins a) (h : b ≠ a) : Aw X ((b, o) :: pins) a := ⟨w.loc, w.ab, w.cel, fun p hp => by
  rcases List.mem_append.mp hp with q | q
  · exact w.pin p (List.mem_append_left _ q)
  · rcases List.mem_cons.mp q with rfl | q
    · exact h
    · exact w.pin p (List.mem_append_right _ q), w.fs⟩
end
end L2
namespace L2
open PySem PySem.Spec PyProof.Rows
section
variable {X : Cx}
end
end L2
namespace L2
open PySem PySem.Spec PyProof.Rows
theorem run_lam {P : Program} {w : World} {K : PySem.W.Frag} {mg : Str → Option Value} {base : Heap} {A : Around} {outer : List Env} {s : Shared} {H : Hp} {Q : VK} {f c' : Addr} {scope : Scope} {name qual : Str} {params : Arguments} {body : Expr} {x : Str} {pm ctv : Value} {v : V} {u : Value} {t : TE} {k : Nat}
    (hr : Room k A) (e0 : Env0 P w K mg base A outer s H) (ho : s.heap.get? f = some (PySem.W.kla_obj name qual params body scope [] pm c' ctv)) (hcd : s.heap.CodeRec (.ref c') qual) (S : FnScope [x] [x] scope)
    (hb : bindArgs (PySem.W.kla_fn name qual params body scope [] pm (.ref c') ctv) ⟨[u], []⟩ = pure [(x, u)]) (r : RelV v u)
    (ht : PE (cxOf CX0 P w K mg base [x] qual scope f (.ref c') A outer s H E0) body t) (hq : t (start [x] [v]) H Q) :
    codeAny (model P w) A (.call (.ref f) ⟨[u], []⟩) (CR CX0 outer P w H s Q E0) s := by
  have lim : s.heap.NoLimit := e0.mod.nolimit.keeps fun b o e => (e0.bs b o e).1
  refine PySem.W.kla_callFunE hr.depth ho rfl S.co S.gen rfl hcd ?_
  rw [hb]
  have hkind : ∀ y ∈ [(x, u)], scope.names.lookup y.1 = some .local ∨ (scope.names.lookup y.1 = some .cell ∧ ((cellsFrom (s.heap.objs.size + 1) scope.names []).lookup y.1).isSome = true) := fun y hy => by
    rw [List.mem_singleton] at hy
    subst hy
    rcases S.par x List.mem_cons_self with q | q
    · exact .inl q
    · exact .inr ⟨q, PySem.W.cellsFrom_some _ _ _ (.inl q)⟩
  refine wpAny_pure (wpAny_newFunctionEnv_cells S.kind hkind fun env he s1 y => ?_)
  subst he
  refine ⟨lim.keeps y.toInCall.keep, PySem.W.kla_codeExpr ?_⟩
  have I : Inv (cxOf CX0 P w K mg base [x] qual scope f (.ref c') A outer s H E0) [] (start [x] [v]) H s1 := inv_start S hr.hd e0 rfl (.cons r .nil) y
  refine wpAny_mono (ht [] s1 (start [x] [v]) H Q I hq) (fun u' s' ⟨v', H', J, rv, q⟩ => ⟨v', H', J.os, J.bare, J.base, J.hok, rv, q⟩) fun e s' hs => hs
section
variable {X : Cx}
end
end L2
namespace L2
open PySem PySem.Spec PyProof.Rows
def ExtB (P : Addr) (H H' : Hp) : Prop := ∀ b o, b ≠ P → H b = some o → H' b = some o
section
variable {X : Cx} {pins : List (Addr × Obj)} {σ : St} {H : Hp} {s : Shared}
theorem Inv.grown {P : Addr} {ps more : Array Value} {h' : Heap} {tk : Nat} (I : Inv X pins σ H s) (hP : H P = some (.tbl ps)) (hx : Heap.ExtBut P s.heap h') (hg : h'.get? P = some { cls := .none, data := .fields (ps ++ more) }) :
    Inv X pins σ (upd H P (.tbl (ps ++ more))) { s with heap := h', toks := tk } := by
  have ne : ∀ b, H b = none → b ≠ P := fun b n z => by rw [z, hP] at n; cases n
  refine I.step (g' := s.gens) (d' := s.drawn) (ch := []) (fun _ z => nomatch z) (fun b o _ _ _ e n => hx b o (ne b n) e) (fun b o _ _ _ e n => ⟨o.slots, hx b o (ne b n) e⟩) (fun b o _ e n => by rw [upd_ne (ne b n)]; exact n) (fun b o _ e => ?_)
    (fun b xs q => ?_) (fun b o u q => ?_) (fun b qs q => ?_) (fun m hm => hm.extBut hx (ne _ I.free)) (fun b u q => ?_) I.bare
  · by_cases hb : b = P
    · rw [hb]; exact ⟨_, hg⟩
    · exact ⟨o, hx b o hb e⟩
  · have : b ≠ P := fun z => by rw [z, hP] at q; cases q
    rw [upd_ne this]; exact q
  · have : b ≠ P := fun z => by rw [z, hP] at q; cases q
    rw [upd_ne this]; exact q
  · by_cases hb : b = P
    · subst hb
      rw [hP] at q; cases q
      exact ⟨more, upd_same⟩
    · exact ⟨#[], by rw [upd_ne hb, q]; simp⟩
  · by_cases hb : b = P
    · subst hb
      rw [upd_same] at q; cases q
      exact hg
    · rw [upd_ne hb] at q
      refine (I.hok b u q).stay (fun c v hc r => hx c v ?_ r) (fun c r => ?_) fun c xs r => ?_
      · rcases hc with rfl | hc
        · exact hb
        · intro z; rw [z, hP] at hc; cases hc
      · have : c ≠ P := fun z => by rw [z, hP] at r; cases r
        rw [upd_ne this]; exact r
      · have : c ≠ P := fun z => by rw [z, hP] at r; cases r
        rw [upd_ne this]; exact r
end
structure LamAt (X : Cx) (c P : Addr) : Prop where
  code : X.env.code = .ref c
  hd : PySem.W.CodeHd X.base c P
  bl : X.base.BuiltinsAt X.mg P
section
variable {X : Cx} {k : Nat}
end
end L2
namespace L2
open PySem PySem.Spec PyProof.Rows
def OnlyT (T : Addr) (H : Hp) : Prop := ∀ b, b ≠ T → H b = none ∨ ∃ o xs, H b = some (.frz o (.lst xs))
theorem mem_lk {β : Type} : ∀ {l : List (Addr × β)} {a : Addr} {b : β}, l.lookup a = some b → (a, b) ∈ l
  | [], _, _, h => by cases h
  | (k, v) :: l, a, b, h => by
    rw [List.lookup_cons] at h
    by_cases e : (a == k) = true
    · rw [e] at h
      cases h
      rw [beq_iff_eq.mp e]
      exact List.mem_cons_self
    · rw [Bool.not_eq_true] at e
      rw [e] at h
      exact List.mem_cons_of_mem _ (mem_lk h)
theorem noTab {K : PySem.W.Frag} {h : Heap} {T : Addr} {ps : Array Value} (X : K.In h) (n : PySem.W.noTabs K = true) (e : h.get? T = some (PySem.W.tabObj ps)) : K.lookup T = none := by
  cases q : K.lookup T with
  | none => rfl
  | some o =>
    have e2 := X T o q
    rw [e] at e2
    cases e2
    have m := mem_lk q
    have := List.all_eq_true.mp n _ m
    cases this
theorem law_callT {P : Program} {w : World} {K : PySem.W.Frag} {mg mb : Str → Option Value} {CX : CXT} {k : Nat} {fa a c T : Addr} {fd : FuncData} {x : Str} {sp : Sp} {s₁ : Shared} {vs : List Value} {ns : List Int}
    (KX : K.In s₁.heap) (hns : s₁.heap.Ns mainGlobals mg) (hb : s₁.heap.Ns builtinsNs mb) (hbb : ∀ x : Str, x ≠ "__name__" → mb x = bootBuiltins x) (hlim : s₁.heap.NoLimit) (hg : s₁.gens = #[])
    (ha : s₁.heap.get? a = some { cls := .type "list", data := .seq vs.toArray }) (hi : IntsAre vs ns) (hl : ns.length ≤ sizeLine) (hr : Room k callerA)
    (hC : PySem.W.CodeHd s₁.heap c T) (hT : s₁.heap.get? T = some (PySem.W.tabObj #[])) (hnt : PySem.W.noTabs K = true) (hB : s₁.heap.BuiltinsAt mg T)
    (F : ∀ base : Heap, K.In base → base.Ns mainGlobals mg → PySem.W.CodeHd base c T → base.BuiltinsAt mg T → FnOk P w K mg base CX k fa fd [x] sp) (hbind : ∀ (s : Shared) (u : Value), BindsTo s fd ⟨[u], []⟩ [(x, u)])
    (hsp : ∀ H : Hp, H T = some (.tbl #[]) → SqL K H a (ns.map V.int) → sp [.ref a] H (fun v _ => v = .bl true) fun _ _ _ => False)
    (hCX : ∀ H e s', CX [] H s₁ (fun _ _ _ => False) e s' → False) :
    codeAny (model P w) callerA (.call (.ref fa) ⟨[.ref a], []⟩) (fun r s' => r = .ok (.ret (.bool true)) ∧ OldK s₁.heap s'.heap ∧ s'.os = s₁.os ∧ AllBare s'.gens) s₁ := by
  have rv := vals_ints hi
  have lenV := hi.length
  have hKT := noTab KX hnt hT
  have aT : a ≠ T := fun z => by rw [z, hT] at ha; cases ha
  have core : ∀ H : Hp, OnlyT T H → H T = some (.tbl #[]) → SqL K H a (ns.map V.int) → HOk P w H s₁.heap → (∀ b, H b ≠ none → b = a ∨ b = T) → (H a ≠ none → K.lookup a = none) →
      codeAny (model P w) callerA (.call (.ref fa) ⟨[.ref a], []⟩) (fun r s' => r = .ok (.ret (.bool true)) ∧ OldK s₁.heap s'.heap ∧ s'.os = s₁.os ∧ AllBare s'.gens) s₁ := by
    intro H hO hHT hS hok hA hK
    have base_of : ∀ {b : Addr} {o : Obj}, s₁.heap.get? b = some o → H b = none → (hidT s₁.heap H).get? b = some o := fun e n => hidT_get e n
    have noA : ∀ {b : Addr} {o : Obj}, s₁.heap.get? b = some o → (∀ vs n, o.data ≠ .seq vs n) → o ≠ PySem.W.tabObj #[] → H b = none := fun {b o} e d1 d2 => by
      cases q : H b with
      | none => rfl
      | some u =>
        rcases hA b (by rw [q]; simp) with e' | e'
        · subst e'
          rw [ha] at e; cases e
          exact absurd rfl (d1 _ _)
        · subst e'
          rw [hT] at e
          exact absurd (Option.some.inj e).symm d2
    have nsK : ∀ {b : Addr} {m : Str → Option Value}, s₁.heap.Ns b m → (hidT s₁.heap H).Ns b m := fun {b m} ⟨o, es, ep, e, d, r⟩ => ⟨o, es, ep, base_of e (noA e (fun _ _ z => by rw [d] at z; cases z) (fun z => by rw [z] at d; cases d)), d, r⟩
    have hKb : K.In (hidT s₁.heap H) := fun b o e => base_of (KX b o e) (by
      cases q : H b with
      | none => rfl
      | some u =>
        rcases hA b (by rw [q]; simp) with e' | e'
        · subst e'
          rw [hK (by rw [q]; simp)] at e; cases e
        · subst e'
          rw [hKT] at e; cases e)
    have hM : Mod K mg (hidT s₁.heap H) := ⟨hKb, nsK hns, ⟨mb, nsK hb, hbb⟩, let ⟨mc, h1, h2⟩ := hlim; ⟨mc, nsK h1, h2⟩⟩
    have hC' : PySem.W.CodeHd (hidT s₁.heap H) c T := by
      obtain ⟨o, vs', file, tf, flags, tg, inF, text, tt, e1, e2, e3, r⟩ := hC
      refine ⟨o, vs', file, tf, flags, tg, inF, text, tt, base_of e1 (noA e1 (fun _ _ z => by rw [e3] at z; cases z) (fun z => by rw [z] at e2; cases e2)), e2, e3, r⟩
    have hB' : (hidT s₁.heap H).BuiltinsAt mg T := by
      obtain ⟨bm, ob, b1, b2, b3, b4, b5, b6, b7, b8⟩ := hB
      exact ⟨bm, ob, b1, b2, b3, b4, base_of b5 (noA b5 (fun _ _ z => by rw [b8] at z; cases z) (fun z => by rw [z] at b8; cases b8)), b6, b7, b8⟩
    have e0 : Env0 P w K mg (hidT s₁.heap H) callerA [] s₁ H := ⟨rfl, hM, fun b o e => of_hidT e, Nat.le_of_eq (hidT_size _ _), trivial, fun b hb => absurd (show b ∈ ([] : List Addr) from hb) (by simp), hok, .of_eq hg⟩
    refine codeAny_mono ((F _ hKb (nsK hns) hC' hB').run callerA [] s₁ H ⟨[.ref a], []⟩ [.ref a] [.ref a] _ _ hr e0 (hbind s₁ (.ref a)) (.cons rfl .nil) (hsp H hHT hS)) fun r s' h => ?_
    cases r with
    | error e => exact (hCX H e s' h).elim
    | ok fl =>
      cases fl with
      | next => exact False.elim h
      | brk => exact False.elim h
      | cont => exact False.elim h
      | ret u =>
        obtain ⟨v, H', os, bare, un, hok', r', q⟩ := h
        have q' : v = .bl true := q
        subst q'
        obtain rfl : u = Value.bool true := r'
        obtain ⟨more, hmT⟩ := un.tbls T _ hHT
        have hTs : s'.heap.get? T = some { cls := .none, data := .fields (#[] ++ more) } := hok' T _ hmT
        refine ⟨rfl, ⟨fun b o e => ?_, fun b o e => ?_⟩, os, bare⟩
        · by_cases hbT : b = T
          · subst hbT
            rw [hT] at e; cases e
            exact .inr (.inl ⟨(hC.tab hT).isCodeTable, rfl, #[], more, rfl, hTs⟩)
          · refine .inl ?_
            cases q : H b with
            | none => exact un.keep b o e q (by intro z; exact absurd (show b ∈ ([] : List Addr) from z) (by simp)) (by simp)
            | some u =>
              rcases hO b hbT with z | ⟨ob, xs, z⟩
              · rw [q] at z; cases z
              · have z2 := un.frzs b ob _ z
                obtain ⟨e1, _⟩ := hok b _ z
                obtain ⟨e2, _⟩ := hok' b _ z2
                rw [e] at e1; cases e1
                exact e2
        · by_cases hbT : b = T
          · rw [hbT]; exact ⟨_, hTs⟩
          · cases q : H b with
            | none => exact ⟨o, un.keep b o e q (by intro z; exact absurd (show b ∈ ([] : List Addr) from z) (by simp)) (by simp)⟩
            | some u =>
              rcases hO b hbT with z | ⟨ob, xs, z⟩
              · rw [q] at z; cases z
              · obtain ⟨e2, _⟩ := hok' b _ (un.frzs b ob _ z)
                exact ⟨_, e2⟩
  have tOk : ∀ H : Hp, ObjOk P w H s₁.heap T (.tbl #[]) := fun _ => hT
  cases hk : K.lookup a with
  | some o =>
    have e := KX a o hk
    rw [ha] at e
    cases e
    refine core (fun b => if b = T then some (.tbl #[]) else none) (fun b hb => .inl (if_neg hb)) (if_pos rfl) (.inr ⟨_, vs.toArray, _, hk, rfl, rfl, rfl, by rw [List.size_toArray, lenV]; exact hl, by simpa using rv⟩) (fun b u z => ?_) (fun b z => ?_) (fun z => absurd (if_neg aT) z)
    · by_cases hb : b = T
      · have z' := (if_pos hb).symm.trans z
        cases z'
        subst hb
        exact tOk _
      · have z' := (if_neg hb).symm.trans z
        cases z'
    · by_cases hb : b = T
      · exact .inr hb
      · exact absurd (if_neg hb) z
  | none =>
    refine core (fun b => if b = T then some (.tbl #[]) else if b = a then some (.frz { cls := .type "list", data := .seq vs.toArray } (.lst (ns.map V.int))) else none) (fun b hbT => ?_) (if_pos rfl) (.inl (.inr ⟨{ cls := .type "list", data := .seq vs.toArray }, (if_neg aT).trans (if_pos rfl)⟩)) (fun b u z => ?_) (fun b z => ?_) fun _ => hk
    · by_cases hb : b = a
      · exact .inr ⟨_, _, (if_neg hbT).trans (if_pos hb)⟩
      · exact .inl ((if_neg hbT).trans (if_neg hb))
    · by_cases hbT : b = T
      · have z' := (if_pos hbT).symm.trans z
        cases z'
        subst hbT
        exact tOk _
      · have z := (if_neg hbT).symm.trans z
        by_cases hb : b = a
        · have z' := (if_pos hb).symm.trans z
          cases z'
          subst hb
          exact ⟨ha, by rw [List.length_map]; exact hl, vs, _, rv, ha⟩
        · have z' := (if_neg hb).symm.trans z
          cases z'
    · by_cases hbT : b = T
      · exact .inr hbT
      · by_cases hb : b = a
        · exact .inl hb
        · exact absurd ((if_neg hbT).trans (if_neg hb)) z
theorem walk_ofT {l : PySem.W.OpenLaw} {n k : Nat} {q : Program} {loose : List Str} {XP : (Str → Option Value) → Heap → Prop} {YP : World → Heap → Prop} {d dr : DefRec} {K : Params → PySem.W.Frag} {CX : World → CXT} {sp : World → Addr → Sp} {x tx : Str}
    (hn : l.most = some n) (hn2 : n ≤ sizeLine) (hdf : d.params.defaults = []) (hr : Room k callerA)
    (hY : ∀ (w : World) (h : Heap), YP w h → (K w.params).In h) (hrec : (recsOf q).find? (fun e => e.name == tx) = some dr)
    (hK : ∀ w : World, ∃ c T, PySem.W.tabIn (K w.params) tx = some (c, T) ∧ PySem.W.noTabs (K w.params) = true)
    (F : ∀ (w : World) (mg : Str → Option Value) (fa : Addr) (h : Heap) (c T : Addr), (K w.params).In h → h.Ns mainGlobals mg → mg d.name = some (.ref fa) → PySem.W.tabIn (K w.params) tx = some (c, T) →
      ∃ fd : FuncData, (∀ (s : Shared) (u : Value), BindsTo s fd ⟨[u], []⟩ [(x, u)]) ∧
        ∀ base : Heap, (K w.params).In base → base.Ns mainGlobals mg → PySem.W.CodeHd base c T → base.BuiltinsAt mg T → FnOk l.prog w (K w.params) mg base (CX w) k fa fd [x] (sp w T))
    (hsp : ∀ (w : World) (T : Addr) (H : Hp) (a : Addr) (ns : List Int), ns.length ≤ n → H T = some (.tbl #[]) → SqL (K w.params) H a (ns.map V.int) → sp w T [.ref a] H (fun v _ => v = .bl true) fun _ _ _ => False)
    (hCX : ∀ (w : World) (H : Hp) (s : Shared) (e : Value) (s' : Shared), CX w [] H s (fun _ _ _ => False) e s' → False) :
    PySem.W.WalkO q loose XP YP l.row.toRowW d [] (fun f vs => PySem.call f vs) := by
  refine Att.attach_call hn hdf fun w s₀ s₁ mg mb fa o pm cd doc a vs ns G Y ho hd hcd hmg hobj hints hlen hg => ?_
  have KX := hY w _ Y
  obtain ⟨c, T, ht, hnt⟩ := hK w
  obtain ⟨hC, hT⟩ := PySem.W.tab_of G.T KX hrec ht
  obtain ⟨bm, ob, b1, b2, b3, b4, b5, b6⟩ := G.T.bmain
  have hbT : bm ≠ T := fun z => by rw [z, hT] at b3; cases b3; cases b4
  have hbG : bm ≠ mainGlobals := fun z => by
    obtain ⟨o', es, ep, e, hd', _⟩ := G.T.g
    rw [z, e] at b3; cases b3; rw [hd'] at b6; cases b6
  obtain ⟨fd, hb, hF⟩ := F w mg fa _ c T KX G.T.g hmg ht
  exact law_callT KX G.T.g G.T.b G.T.builtins G.T.nolimit hg hobj hints (Nat.le_trans hlen hn2) hr hC hT hnt ⟨bm, ob, b1, b2, hbG, hbT, b3, b4, b5, b6⟩ hF hb (fun H hO hS => hsp w T H a ns hlen hO hS) fun H e s' => hCX w H s₁ e s'
section
variable {P : Program} {w : World} {K : PySem.W.Frag} {mg : Str → Option Value} {base : Heap}
theorem Fun.okC {x qual : Str} {st : Stmt} {f : Addr} {fd : FuncData} {N ps : List Str} {k : Nat} {sp : Sp} (F : Fun K x qual st f fd) (S : FnScope N ps (defScope st)) (len : ∀ vs H Q E, sp vs H Q E → vs.length = ps.length)
    (hbody : ∀ (A : Around) (outer : List Env) (s : Shared) (H : Hp) (vs : List V) (Q : VK) (E : XK), Room k (A.deeper (envOfC qual (defScope st) s.heap.objs.size f fd.code)) → sp vs H Q E →
      ∃ t, PSs (cxOf CX0 P w K mg base N qual (defScope st) f fd.code A outer s H E).nox (defBody st) t ∧ t { nx := fun _ H' => Q .non H', rt := Q } (start N vs) H) : FnOk P w K mg base CX0 (k + 1) f fd ps sp := by
  obtain ⟨oc, od, kV, doc, pm, an, cdv, ct, osl, rfl, lk, hcd⟩ := F.ex
  refine fn_of lk hcd S len fun A outer s H vs Q E hr hsp => ?_
  obtain ⟨t, h, q⟩ := hbody A outer s H vs Q E hr hsp
  exact ⟨t, h.nox, q⟩
theorem code_of {x qual : Str} {st : Stmt} {f c T : Addr} {fd : FuncData} (F : Fun K x qual st f fd) (a : PySem.W.nsIn K mainGlobals x = some (some (.ref f))) (h : PySem.W.tabIn K x = some (c, T)) : fd.code = .ref c := by
  obtain ⟨oc, od, kV, doc, pm, an, cdv, ct, osl, rfl, lk, hcd⟩ := F.ex
  unfold PySem.W.tabIn at h
  rw [a] at h
  dsimp only at h
  rw [lk] at h
  dsimp only at h
  show cdv = _
  cases cdv with
  | ref c2 =>
    dsimp only at h
    split at h
    · split at h
      · cases h; rfl
      · cases h
    · cases h
  | _ => cases h
end
end L2
namespace L2
open PySem PySem.Spec PyProof.Rows
theorem sub_ri_reversed : isSubtype (.type "range_iterator") (.type "reversed") = pure false := by rw [isSubtype_type]; kernel_rfl
def revRng (n : Nat) : Obj := { cls := .type "range_iterator", data := .fields #[rawInt ((n : Int) - 1), rawInt n, rawInt (-1)] }
section
variable {prog : Program} {w : World} {A : Around} {E : Value → Shared → Prop} {s : Shared}
theorem call_range_reversed {r : Addr} {n : Nat} {t u v : Tok} {Q : Value → Shared → Prop} (hn : n = 1 ∨ n = 2) (hl : s.heap.get? r = some { cls := .type "range", data := .fields #[.int 0 t, .int n u, .int 1 v] })
    (h : Q (.ref s.heap.objs.size) { s with heap := s.heap.push (revRng n) }) : wpAny (model prog w) A (call (.builtin "range.__reversed__") [.ref r]) Q E s := by
  have ty : s.TypeIs (.ref r) "range" := ⟨_, hl, rfl⟩
  refine wpAny_call_entry F.slot_range_reversed ty F.entry_range_reversed ?_ (F.args_range_reversed_1 _)
  unfold Builtin.«range.__reversed__»
  refine wpAny_bind (wpAny_of_eq (a := Value.ref r) rfl ?_)
  rcases hn with rfl | rfl
  all_goals
    refine wpAny_bind ?_
    unfold Builtin.Range.rangeFields
    refine wpAny_bind (wpAny_field hl rfl (x := .int 0 t) rfl ?_)
    refine wpAny_bind (wpAny_of_eq (a := some (0 : Int)) rfl ?_)
    refine wpAny_bind (wpAny_field hl rfl rfl ?_)
    refine wpAny_bind (wpAny_pure ?_)
    refine wpAny_bind (wpAny_field hl rfl (x := .int 1 v) rfl ?_)
    refine wpAny_bind (wpAny_of_eq (a := some (1 : Int)) rfl ?_)
    refine wpAny_pure ?_
    exact wpAny_bind (wpAny_newObj_type (wpAny_pure ⟨_, rfl, h⟩))
theorem code_reversed_rng {r : Addr} {n : Nat} {t u v : Tok} {Q₁ : Value → Shared → Prop} (hn : n = 1 ∨ n = 2) (hl : s.heap.get? r = some { cls := .type "range", data := .fields #[.int 0 t, .int n u, .int 1 v] })
    (h : Q₁ (.ref s.heap.objs.size) { s with heap := s.heap.push (revRng n) }) :
    codeAny (model prog w) A (.call (.builtin "reversed.__new__") ⟨[.type "reversed", .ref r], []⟩) (wants Q₁ E) s := by
  have ty : s.TypeIs (.ref r) "range" := ⟨_, hl, rfl⟩
  refine codeAny_of_tree ?_
  show wpAny _ A.in1 (do checkBuiltinCall "reversed.__new__" ⟨[.type "reversed", .ref r], []⟩; again (.builtin "reversed.__new__" ⟨[.type "reversed", .ref r], []⟩)) _ _ s
  refine wpAny_bind (wpAny_of_eq (F.newCall_reversed_1 _) (wpAny_pure ⟨plainId_quiet F.plain_reversed_new _, codeAny_builtin F.entry_reversed_new ?_⟩))
  rw [Around.under_plainId F.plain_reversed_new _]
  unfold Builtin.«reversed.__new__»
  refine wpAny_bind (wpAny_of_eq (newClass_reversed _) ?_)
  try dsimp only
  refine wpAny_bind (wpAny_of_eq (a := ()) (by first | rfl | kernel_rfl) ?_)
  refine wpAny_bind (wpAny_of_eq (a := ()) (by first | rfl | kernel_rfl) ?_)
  try dsimp only
  refine wpAny_bind (wpAny_specialOf ty F.slot_range_reversed.lookup ?_)
  try dsimp only
  refine wpAny_bind (wpAny_of_eq (F.slot_range_reversed.bind _) ?_)
  try dsimp only
  first
  | rw [if_neg (show ¬ ((Value.builtin "range.__reversed__" == Value.none) = true) from Bool.false_ne_true)]
  | (show wpAny _ _ (if (Value.builtin "range.__reversed__" == Value.none) = true then _ else _) _ _ _; rw [if_neg (show ¬ ((Value.builtin "range.__reversed__" == Value.none) = true) from Bool.false_ne_true)])
  refine wpAny_bind (wpAny_rule ?_)
  refine wpAny_bind (m := runValue (.call (.builtin "range.__reversed__") ⟨[.ref r], []⟩)) (show wpAny _ _ (call (.builtin "range.__reversed__") [.ref r]) _ _ _ from call_range_reversed hn hl ?_)
  first
  | exact wpAny_pure h
  | exact wpAny_bind (wpAny_pure (wpAny_pure h))
theorem call_reversed_rng {r : Addr} {n : Nat} {t u v : Tok} {Q : Value → Shared → Prop} (hn : n = 1 ∨ n = 2) (hl : s.heap.get? r = some { cls := .type "range", data := .fields #[.int 0 t, .int n u, .int 1 v] })
    (h : Q (.ref s.heap.objs.size) { s with heap := s.heap.push (revRng n) }) : wpAny (model prog w) A (call (.type "reversed") [.ref r]) Q E s := by
  refine callType_other (U := "range_iterator") (Q₁ := fun obj s₁ => obj = .ref s.heap.objs.size ∧ s₁ = { s with heap := s.heap.push (revRng n) }) (by decide +kernel) F.create_reversed ⟨_, _, F.mro_reversed⟩ F.made_reversed sub_ri_reversed (F.typeCall_reversed_1 _) (code_reversed_rng hn hl ⟨rfl, rfl⟩) ?_
  rintro obj s₁ ⟨rfl, rfl⟩
  exact ⟨⟨_, Heap.get?_push_size _ rfl, rfl⟩, h⟩
end
def Itd (hi : Int) (n : Nat) : It := ⟨fun i _ => i < n, fun i H x H' => H' = H ∧ x = .int (hi - i), fun i _ => n ≤ i⟩
theorem turn_rangeD {P : Program} {w : World} {K : PySem.W.Frag} {tg : Expr} (it : Addr) (hi : Int) (n : Nat) : Turn P w K tg (Itd hi n) [it] it (fun i h => IsRangeIter h it (hi + (i : Nat) * (-1)) ((n : Int) - (i : Nat)) (-1)) where
  mem := by simp
  obj := fun i h st b hb => by
    have e : b = it := by simpa using hb
    subst e
    exact ⟨_, st, fun v z => by
      have z' : Data.fields _ = Data.cell v := z
      cases z'⟩
  keep := fun i h h' st k => k it (by simp) _ st
  item := by
    intro X hP hw hK hc i pins s σ H E I hf st hg
    subst hP hw hK
    obtain ⟨f0, f1, f2, f3, f4, f5⟩ := hf it (by simp)
    have W := Walks.range (prog := X.prog) (w := X.w) (I.ok.hd hc) it hi (-1) n
    refine W.item i s _ _ hg st fun v h' tk hv st' kk => ?_
    obtain ⟨t, rfl⟩ := hv
    have I1 : Inv X pins σ H { s with heap := h', toks := tk } := I.turned (fun b o hb e => kk b o (by simpa using hb) e) f0 f1 f3 f4 f5
    refine ⟨_, rfl, go_of (s := { s with heap := h', toks := tk }) (n := "range_iterator") st' rfl rfl (by decide) ⟨.int (hi - i), H, I1, ⟨t, ?_⟩, ⟨rfl, rfl⟩, st', fun b hb => (hf b hb).1⟩⟩
    congr 1
    omega
  done := by
    intro X hP hw hK hc i pins s σ H E I hf st hg
    subst hP hw hK
    obtain ⟨f0, f1, f2, f3, f4, f5⟩ := hf it (by simp)
    exact wpAny_pyNext_range_end (I.ok.hd hc) st (by have : n ≤ i := hg; omega) fun h' eb => ⟨rfl, I.turned (t' := s.toks) (fun b o hb e => eb b o hb e) f0 f1 f3 f4 f5⟩
  self := fun _ _ _ _ _ st h => wpAny_pyIter_rangeiter st h
section
variable {X : Cx} {tg : Expr}
def iRev (ta : TA) : TI := fun σ H R => ta σ H fun vs H1 => ∃ (r : Addr) (n : Nat), vs = [.ref r] ∧ H1 r = some (.rng 0 (n : Int)) ∧ (n = 1 ∨ n = 2) ∧ R (Itd ((n : Int) - 1) n) H1
theorem pi_rev {e : Expr} {ta : TA} {p pos : Pos} (hg : Gl X "reversed") (hm : X.mg "reversed" = none) (ha : PA X [e] ta) (hs : starEach [e] X.env = [(false, eval e X.env)] := by rfl) : PI X tg (.Call (.Name "reversed" p) [e] [] pos) (iRev ta) := by
  intro pins s σ H R I h
  refine Call_ (ld_blt I hg hm boot_reversed (PyProof.Rows.callWith_type1 (thn (ha pos pins s σ H _ I h) fun us s1 ⟨vs, H1, I1, r1, q1⟩ => ?_) hs rfl))
  obtain ⟨r, n, rfl, hr, hn, q⟩ := q1
  obtain ⟨u, rfl, rx⟩ := vals1 r1
  cases rx
  obtain ⟨t1, t2, t3, hl⟩ := I1.hok r _ hr
  refine call_reversed_rng hn hl ?_
  refine wpAny_pyIter_rangeiter (Heap.get?_push_size _ rfl) ?_
  refine ⟨s1.heap.objs.size, [s1.heap.objs.size], _, _, H1, rfl, I1.kept (t' := s1.toks) fun b o e => Heap.get?_push_of_some _ e, turn_rangeD _ ((n : Int) - 1) n, ?_, fun b hb => ?_, q⟩
  · have e1 : ((n : Int) - 1) + ((0 : Nat) : Int) * (-1) = (n : Int) - 1 := by omega
    have e2 : ((n : Nat) : Int) - ((0 : Nat) : Int) = (n : Int) := by omega
    show IsRangeIter _ _ (((n : Int) - 1) + ((0 : Nat) : Int) * (-1)) (((n : Nat) : Int) - ((0 : Nat) : Int)) (-1)
    rw [e1, e2]
    exact Heap.get?_push_size _ rfl
  · have e : b = s1.heap.objs.size := by simpa using hb
    subst e
    exact I1.fpOk (Nat.le_refl _) (I1.hok.fresh (Nat.le_refl _))
end
end L2
namespace L2
open PySem PySem.Spec PyProof.Rows
section
variable {X : Cx}
theorem sk_end1 {pins : List (Addr × Obj)} {σ : St} {H : Hp} {s : Shared} {a kS : Addr} {e1 : Nat} {u kv : Value} {y : V} {P : PySem.Fin → Shared → Prop} {A : Around} {E' : Value → Shared → Prop} {en : Nat}
    (I : Inv X ((kS, seqObj "list" #[kv] en) :: (a, seqObj "list" #[] e1) :: pins) σ H s) (hk : kS ≠ a) (Hk : H kS = none) (Ha : H a = none) (wa : Aw X pins a) (wk : Aw X pins kS) (ru : RelV y u)
    (h : ∀ (s' : Shared), Inv X pins σ (upd H a (.lst [y])) s' → P (.done (.ret .none)) s') :
    wpAny (model X.prog X.w) A (ksk_end a false #[u] e1 (.ref kS) #[kv]) P E' s := by
  have ok : s.heap.get? kS = some (seqObj "list" #[kv] en) := (I.pin (kS, _) (List.mem_append_right _ (.head _))).1
  unfold ksk_end
  try dsimp only
  simp only [Bool.false_eq_true, if_false]
  have h2 : (#[u] : Array Value).size < 2 := by show 1 < 2; decide
  rw [if_pos h2, if_pos h2]
  refine wpAny_bind (wpAny_pure ?_)
  rw [StateT.run_pure]
  refine wpAny_bind (wpAny_pure ?_)
  try dsimp only
  obtain ⟨n1, I1, _⟩ := Inv.repinL (fun _ => (#[] : Array Value)) I.unpin (wk.cons (Ne.symm hk)) Hk ok
  have oa1 : (s.heap.update kS (Obj.mapSeq fun _ => (#[] : Array Value))).get? a = some (seqObj "list" #[] e1) := (I1.pin (a, _) (List.mem_append_right _ (.head _))).1
  obtain ⟨n2, I2, oa2⟩ := Inv.repinL (s := { s with heap := s.heap.update kS (Obj.mapSeq fun _ => (#[] : Array Value)) }) (fun _ => (#[u] : Array Value)) I1.unpin wa Ha oa1
  have eA : Array.map (fun x => x.snd) (arrOf (SortSt.mk' general' ((#[kv] : Array Value).zip #[u]) #[] 7 none)) = #[u] := by first | rfl | (show Array.map _ ((#[kv] : Array Value).zip #[u]) = _; simp)
  unfold ksk_tail
  try dsimp only
  simp only [Bool.false_eq_true, if_false]
  rw [eA]
  refine wpAny_bind (listUpdate_at ok rfl ?_ (by show 1 ≤ _; rw [sizeLine_eq]; omega) (Nat.zero_le _))
  refine wpAny_bind (wpAny_letGo ?_)
  refine wpAny_bind (seqEpoch_at oa1 rfl ?_)
  refine wpAny_bind (listUpdate_at oa1 rfl ?_ (Nat.zero_le _) (by show 1 ≤ _; rw [sizeLine_eq]; omega))
  show wpAny _ _ (if (e1 != e1) = true then _ else _) _ _ _
  rw [if_neg (by simp)]
  refine wpAny_pure (h _ ?_)
  exact I2.adopt (its := [u]) (n := n2) wa Ha (.cons ru .nil) (by show 1 ≤ _; rw [sizeLine_eq]; omega) oa2
theorem sortKey1_core {pins : List (Addr × Obj)} {σ : St} {H1 : Hp} {s1 : Shared} {l f : Addr} {y : V} {Q : VK} (I1 : Inv X pins σ H1 s1) (hq : SqL X.K H1 l [y])
    (hcall : ∀ (u : Value), RelV y u → ∀ (pins' : List (Addr × Obj)) (s' : Shared), (∀ p ∈ pins, p ∈ pins') → Inv X pins' σ H1 s' → wpAny (model X.prog X.w) X.A.in1.in1 (call (.ref f) [u]) (EP X pins' σ (fun v H => H = H1)) (fun _ _ => False) s')
    (q : ∀ (r : Addr), H1 r = none → Q (.ref r) (upd H1 r (.lst [y]))) :
    wpAny (model X.prog X.w) X.A (call (.builtin "sorted") [.ref l] [(Str.ofString "key", .ref f)]) (EP X pins σ Q) X.xe s1 := by
  obtain ⟨its, rv, pl, hz⟩ := I1.list hq
  obtain ⟨u0, rfl, ru0⟩ := vals1 rv
  generalize hits : [u0] = its at pl
  have hl : its.length = 1 := by rw [← hits]; rfl
  refine call_function_entry_kw kind_sorted plain_sorted entry_sorted (ksk_s1 _ _) ?_
  unfold Builtin.«sorted»
  refine wpAny_bind (m := checkCount "sorted" 1 1 _) (wpAny_pure ?_)
  refine wpAny_bind (collect_list pl.isList ?_ (by rw [sizeLine_eq]; omega))
  refine wpAny_bind (wpAny_newList ?_ (by rw [sizeLine_eq]; omega))
  have hsz : ((s1.heap.push (seqObj "list" #[] 0)).update s1.heap.objs.size (Obj.mapSeq (· ++ its.toArray))).objs.size = s1.heap.objs.size + 1 := by
    rw [Heap.size_update, size_push']
  have keep : ∀ b o, s1.heap.get? b = some o → ((s1.heap.push (seqObj "list" #[] 0)).update s1.heap.objs.size (Obj.mapSeq (· ++ its.toArray))).get? b = some o := fun b o q => by
    have hlt : b < s1.heap.objs.size := Heap.lt_size q
    rw [Heap.get?_update_ne _ _ _ _ (Nat.ne_of_lt hlt), Heap.get?_push_ne _ _ _ (Nat.ne_of_lt hlt)]
    exact q
  have hoL : (((s1.heap.push (seqObj "list" #[] 0)).update s1.heap.objs.size (Obj.mapSeq (· ++ its.toArray))).push (seqObj "list" its.toArray 0)).get? (s1.heap.objs.size + 1) = some (seqObj "list" its.toArray 0) := by
    rw [← hsz]; exact Heap.get?_push_size _ rfl
  have I2 : Inv X pins σ H1 { s1 with heap := ((s1.heap.push (seqObj "list" #[] 0)).update s1.heap.objs.size (Obj.mapSeq (· ++ its.toArray))).push (seqObj "list" its.toArray 0) } :=
    I1.kept (t' := s1.toks) fun b o q => Heap.get?_push_of_some _ (keep b o q)
  show wpAny _ _ _ _ _ { s1 with heap := ((s1.heap.push (seqObj "list" #[] 0)).update s1.heap.objs.size (Obj.mapSeq (· ++ its.toArray))).push (seqObj "list" its.toArray 0) }
  rw [hsz]
  have nA : H1 (s1.heap.objs.size + 1) = none := I1.hok.fresh (Nat.le_succ _)
  have wA : Aw X pins (s1.heap.objs.size + 1) := I1.aw (Nat.le_succ _)
  generalize s1.heap.objs.size + 1 = a at hoL nA wA
  generalize hS : ({ s1 with heap := ((s1.heap.push (seqObj "list" #[] 0)).update s1.heap.objs.size (Obj.mapSeq (· ++ its.toArray))).push (seqObj "list" its.toArray 0) } : Shared) = s2 at I2
  have ho2 : s2.heap.get? a = some (seqObj "list" its.toArray 0) := by rw [← hS]; exact hoL
  clear hoL hS
  refine wpAny_bind (wpAny_holding (wpAny_call_entry_kw slot_list_sort ⟨_, ho2, rfl⟩ entry_list_sort ?body (ksk_l1 _ _)))
  show wpAny (model X.prog X.w) X.A.in1.in1 (Builtin.«list.sort» ⟨[.ref a], [(Str.ofString "key", .ref f)]⟩) _ _ _
  rw [ksk_t1]
  unfold ksk_tree
  have hi0 : its.length < 64 := by omega
  refine wpAny_bind (listItems_at ho2 rfl ?_)
  refine wpAny_bind (listUpdate_at ho2 rfl ?_ (by rw [List.size_toArray, sizeLine_eq]; omega) (Nat.zero_le _))
  obtain ⟨e1, I3, ho3⟩ := I2.repinL (fun _ => #[]) wA nA ho2
  refine wpAny_bind (seqEpoch_at ho3 rfl ?_)
  refine wpAny_bind (wpAny_newTuple ?_ (by show its.length ≤ _; rw [sizeLine_eq]; omega))
  refine wpAny_bind (wpAny_newList ?_ (Nat.zero_le _))
  refine wpAny_holding ?_
  have I4 : Inv X pins σ H1 { s2 with heap := ((s2.heap.update a (Obj.mapSeq fun _ => (#[] : Array Value))).push (seqObj "tuple" its.toArray 0)) } := I3.kept (t' := s2.toks) fun b o q => Heap.get?_push_of_some _ q
  have nK := I4.fresh
  have wK := I4.aw (Nat.le_refl _)
  have ho4 : ((s2.heap.update a (Obj.mapSeq fun _ => (#[] : Array Value))).push (seqObj "tuple" its.toArray 0)).get? a = some (seqObj "list" #[] e1) := Heap.get?_push_of_some _ ho3
  have nka : ((s2.heap.update a (Obj.mapSeq fun _ => (#[] : Array Value))).push (seqObj "tuple" its.toArray 0)).objs.size ≠ a := Nat.ne_of_gt (Heap.lt_size ho4)
  have I5 : Inv X pins σ H1 { s2 with heap := ((s2.heap.update a (Obj.mapSeq fun _ => (#[] : Array Value))).push (seqObj "tuple" its.toArray 0)).push (seqObj "list" #[] 0) } := I4.kept (t' := s2.toks) fun b o q => Heap.get?_push_of_some _ q
  have ho5 : (((s2.heap.update a (Obj.mapSeq fun _ => (#[] : Array Value))).push (seqObj "tuple" its.toArray 0)).push (seqObj "list" #[] 0)).get? a = some (seqObj "list" #[] e1) := Heap.get?_push_of_some _ ho4
  have hk5 : (((s2.heap.update a (Obj.mapSeq fun _ => (#[] : Array Value))).push (seqObj "tuple" its.toArray 0)).push (seqObj "list" #[] 0)).get? ((s2.heap.update a (Obj.mapSeq fun _ => (#[] : Array Value))).push (seqObj "tuple" its.toArray 0)).objs.size = some (seqObj "list" #[] 0) := Heap.get?_push_size _ rfl
  show wpAny _ _ (ksk_rest a (.ref f) false its.toArray e1 (.ref ((s2.heap.update a (Obj.mapSeq fun _ => (#[] : Array Value))).push (seqObj "tuple" its.toArray 0)).objs.size)) _ _ { s2 with heap := ((s2.heap.update a (Obj.mapSeq fun _ => (#[] : Array Value))).push (seqObj "tuple" its.toArray 0)).push (seqObj "list" #[] 0) }
  change H1 ((s2.heap.update a (Obj.mapSeq fun _ => (#[] : Array Value))).push (seqObj "tuple" its.toArray 0)).objs.size = none at nK
  change Aw X pins ((s2.heap.update a (Obj.mapSeq fun _ => (#[] : Array Value))).push (seqObj "tuple" its.toArray 0)).objs.size at wK
  have I6 := (I5.pinL wA nA ho5).pinL (wK.cons (Ne.symm nka)) nK hk5
  generalize ((s2.heap.update a (Obj.mapSeq fun _ => (#[] : Array Value))).push (seqObj "tuple" its.toArray 0)).objs.size = kS at nK wK nka I6 ⊢
  generalize ({ s2 with heap := ((s2.heap.update a (Obj.mapSeq fun _ => (#[] : Array Value))).push (seqObj "tuple" its.toArray 0)).push (seqObj "list" #[] 0) } : Shared) = s6 at I6 ⊢
  unfold ksk_rest
  refine wpAny_bind (wpAny_rule ?_)
  first
    | rw [List.forIn_toArray]
    | (rw [← Array.forIn_toList]; simp only [List.toList_toArray])
    | rw [← Array.forIn_toList]
  refine wpAny_bind (ksk_fold (fun i s' => ∃ (kA : List Value) (e : Nat), Inv X ((kS, seqObj "list" kA.toArray e) :: (a, seqObj "list" #[] e1) :: pins) σ H1 s' ∧ kA.length = i) its 0 s6 ⟨[], 0, I6, rfl⟩ ?step ?done)
  case step =>
    rintro j x s' hx ⟨kA, e, I', hk⟩
    simp only [Nat.zero_add] at hk ⊢
    have hj : j < its.length := (List.getElem?_eq_some_iff.mp hx).1
    have ex : x = u0 := by
      have : j = 0 := by omega
      subst this
      rw [← hits] at hx
      exact (Option.some.inj hx).symm
    subst ex
    refine wpAny_bind (wpAny_attempt (wpAny_mono (hcall x ru0 _ s' (fun p hp => List.mem_cons_of_mem _ (List.mem_cons_of_mem _ hp)) I') (fun v s'' he => ?_) fun _ _ (hF : False) => hF.elim))
    obtain ⟨w, H', I8, rw', e8⟩ := he
    rw [e8] at I8
    try dsimp only
    have ok2 : s''.heap.get? kS = some (seqObj "list" kA.toArray e) := (I8.pin (kS, _) (List.mem_append_right _ (.head _))).1
    obtain ⟨n3, I3, ok3⟩ := I8.unpin.repinL (·.push v) (wK.cons (Ne.symm nka)) nK ok2
    refine wpAny_bind (listUpdate_at ok2 rfl ?_ (by rw [List.size_toArray, sizeLine_eq]; omega) (Nat.le_trans (Nat.le_of_eq (Array.size_push ..)) (by rw [List.size_toArray, sizeLine_eq]; omega)))
    have ea : kA.toArray.push v = (kA ++ [v]).toArray := by simp
    rw [ea] at ok3
    exact wpAny_pure ⟨rfl, kA ++ [v], n3, I3.pinL (wK.cons (Ne.symm nka)) nK ok3, by rw [List.length_append, hk]; rfl⟩
  case done =>
    rintro s' ⟨kA, e, I', hk⟩
    rw [hl] at hk
    have ok2 : s'.heap.get? kS = some (seqObj "list" kA.toArray e) := (I'.pin (kS, _) (List.mem_append_right _ (.head _))).1
    try dsimp only
    refine wpAny_bind (listItems_at ok2 rfl ?_)
    subst hits
    obtain ⟨kv, rfl⟩ : ∃ kv, kA = [kv] := by
      match kA, hk with
      | [kv], _ => exact ⟨kv, rfl⟩
    refine sk_end1 I' nka nK nA wA wK ru0 fun s7 I7 => ⟨_, rfl, ?_⟩
    exact wpAny_pure ⟨_, rfl, ⟨.ref a, _, I7, rfl, q a nA⟩⟩
end
end L2
namespace L2
open PySem PySem.Spec PyProof.Rows
section
variable {X : Cx} {pins : List (Addr × Obj)} {σ : St} {H : Hp} {s : Shared}
theorem Inv.adoptX {a : Addr} {φ : Heap → Prop} (I : Inv X pins σ H s) (w : Aw X pins a) (hn : H a = none) (hφ : ObjOk X.prog X.w (upd H a (.ext φ)) s.heap a (.ext φ)) : Inv X pins σ (upd H a (.ext φ)) s := by
  refine ⟨I.ok, I.os, I.bare, ⟨I.base.keep, I.base.slot, fun b o q n' hx => ?_, I.base.there, fun b xs q => ?_, fun b o u q => ?_, fun b ps q => ?_⟩, I.loc, I.cell, ?_, fun x c q => ?_, fun p hp => ?_, fun b u q => ?_, I.len⟩
  · rw [upd_ne (Nat.ne_of_lt (Nat.lt_of_lt_of_le (Heap.lt_size q) w.ab))]; exact I.base.free b o q n' hx
  · have := I.base.tups b xs q
    rw [upd_ne (ne_of_none this hn)]; exact this
  · have := I.base.frzs b o u q
    rw [upd_ne (ne_of_none this hn)]; exact this
  · obtain ⟨m, this⟩ := I.base.tbls b ps q
    exact ⟨m, by rw [upd_ne (ne_of_none this hn)]; exact this⟩
  · rw [upd_ne (Ne.symm w.loc)]; exact I.free
  · rw [upd_ne (w.cel x c q)]; exact I.freeC x c q
  · obtain ⟨h1, h2, h3⟩ := I.pin p hp
    exact ⟨h1, by rw [upd_ne (w.pin p hp)]; exact h2, h3⟩
  · by_cases hb : b = a
    · subst hb
      rw [upd_same] at q; cases q
      exact hφ
    · rw [upd_ne hb] at q
      exact (I.hok b u q).stay (fun c v _ r => r) (fun c r => by rw [upd_ne (ne_of_none r hn)]; exact r) fun c xs r => by rw [upd_ne (ne_of_none r hn)]; exact r
end
def codeO (c : Addr) (q : Str) : HO := .ext fun h => h.CodeRec (.ref c) q
theorem codeO_ok {P : Program} {w : World} {H : Hp} {h : Heap} {c : Addr} {q : Str} (r : h.CodeRec (.ref c) q) : ObjOk P w H h c (codeO c q) := by
  obtain ⟨c2, oc, vs, t, e, ho, hd, hv⟩ := id r
  cases e
  refine ⟨r, ⟨oc, ho⟩, fun h1 h2 r1 k => ?_⟩
  obtain ⟨c3, oc', vs', t', e', ho', hd', hv'⟩ := r1
  cases e'
  exact ⟨c, oc', vs', t', rfl, k _ ho', hd', hv'⟩
def TabW (H : Hp) (P : Addr) (lpos : Pos) (q : Str) : Prop := H P = some (.tbl #[]) ∨ ∃ c', H P = some (.tbl #[rawInt lpos.line, rawInt lpos.col, .ref c']) ∧ H c' = some (codeO c' q)
theorem among3 (lpos : Pos) (v : Value) : codeAmong lpos (#[rawInt lpos.line, rawInt lpos.col, v] : Array Value).toList = some v := by
  show (if _ then _ else _) = _
  simp
theorem TabW.ext {H H' : Hp} {P : Addr} {lpos : Pos} {q : Str} (h : TabW H P lpos q) (e : ∀ b o, H b = some o → H' b = some o) : TabW H' P lpos q := by
  rcases h with h | ⟨c, h1, h2⟩
  · exact .inl (e _ _ h)
  · exact .inr ⟨c, e _ _ h1, e _ _ h2⟩
def tSortLam1 (K : PySem.W.Frag) (P : Addr) (lpos : Pos) (q : Str) (t : TA) (te : TE) : TE := fun σ H Q => t σ H fun vs H1 => ∃ (p : Addr) (y : V), vs = [.ref p] ∧ SqL K H1 p [y] ∧ TabW H1 P lpos q ∧ (∀ H2, ExtB P H1 H2 → te [some y] H2 fun _ H' => H' = H2) ∧
  ∀ (r : Addr) (H2 : Hp), H1 r = none → ExtB P H1 H2 → H2 r = some (.lst [y]) → TabW H2 P lpos q → Q (.ref r) H2
section
variable {X : Cx} {k : Nat}
theorem sq_B {K : PySem.W.Frag} {H H' : Hp} {P l : Addr} {xs : List V} {ps : Array Value} (hP : H P = some (.tbl ps)) (e : ExtB P H H') (hq : SqL K H l xs) : SqL K H' l xs := by
  rcases hq with (hq | ⟨o, hq⟩) | hq
  · exact .inl (.inl (e _ _ (fun z => by rw [z, hP] at hq; cases hq) hq))
  · exact .inl (.inr ⟨o, e _ _ (fun z => by rw [z, hP] at hq; cases hq) hq⟩)
  · exact .inr hq
theorem pe_sortLam1 {e body : Expr} {params : Arguments} {scope : Scope} {t : TA} {te : TE} {p pos kp lpos : Pos} {x : Str} {c P : Addr} (L : LamAt X c P) (hr : Room (k + 2) X.A) (hg : Gl X "sorted") (hm : X.mg "sorted" = none) (ha : PA X [e] t)
    (S : FnScope [x] [x] scope) (hcl : closureFor scope X.env = pure []) (hdef : defaultsOf params X.env = ([], []))
    (hb : ∀ (nm ql : Str) (pm cd ct u : Value), bindArgs { name := nm, qualname := ql, params, body := .expr body, scope, globals := mainGlobals, closure := [], defaults := .none, kwdefaults := .none, doc := .none, pyModule := pm, annotations := none, code := cd, closureTuple := ct, builtins := builtinsNs } ⟨[u], []⟩ = pure [(x, u)])
    (hbody : ∀ (A : Around) (s : Shared) (H : Hp) (f : Addr) (cd : Value) (qual : Str), PE (cxOf CX0 X.prog X.w X.K X.mg X.base [x] qual scope f cd A X.stack s H E0) body te)
    (he : backTo pos (starEach [e] X.env) = (false, eval e X.env) :: backTo pos (starEach [] X.env) := by rfl)
    (hplain : (backTo pos (starEach [e] X.env)).any (·.1) = false := by rfl) : PE X (.Call (.Name "sorted" p) [e] [⟨some "key", .Lambda params body scope lpos, kp⟩] pos) (tSortLam1 X.K P lpos (X.env.qual ++ "<lambda>") t te) := by
  intro pins s σ H Q I h
  refine wpAny_Call_Name_kw (ld_blt I hg hm (by decide +kernel : bootBuiltins "sorted" = some (.builtin "sorted")) ?_ (by decide) (by decide))
  refine PyProof.Rows.callWith_kw (thn (ha pos pins s σ H _ I h) fun us s1 ⟨vs, H1, I1, r1, q1⟩ => ?_) he hplain
  obtain ⟨l, y, rfl, hq, tw, hte, q⟩ := q1
  obtain ⟨u, rfl, rx⟩ := vals1 r1
  cases rx
  have hgs : s1.heap.Ns mainGlobals X.mg := I1.ok.mod.glob.keeps I1.bk
  obtain ⟨bm, ob, b1, b2, b3, b4, b5, b6⟩ := L.bl
  have rest : ∀ (c' : Addr) (ctv : Value) (h' : Heap) (tk : Nat) (H2 : Hp), Inv X pins σ H2 { s1 with heap := h'.push (PySem.W.kla_obj "<lambda>" (X.env.qual ++ "<lambda>") params body scope [] ((X.mg "__name__").getD .none) c' ctv), toks := tk } → H2 c' = some (codeO c' (X.env.qual ++ "<lambda>")) → H2 h'.objs.size = none → Aw X pins h'.objs.size → (∃ ps, H1 P = some (.tbl ps)) → ExtB P H1 H2 → TabW H2 P lpos (X.env.qual ++ "<lambda>") → (∀ r, H2 r = none → H1 r = none) →
      wpAny (model X.prog X.w) X.A (call (.builtin "sorted") [.ref l] [(Str.ofString "key", .ref h'.objs.size)]) (EP X pins σ Q) X.xe { s1 with heap := h'.push (PySem.W.kla_obj "<lambda>" (X.env.qual ++ "<lambda>") params body scope [] ((X.mg "__name__").getD .none) c' ctv), toks := tk } := by
    intro c' ctv h' tk H2 I2 hc' nF wF ⟨ps, hP⟩ eB tw2 back
    have I3 : Inv X ((h'.objs.size, PySem.W.kla_obj "<lambda>" (X.env.qual ++ "<lambda>") params body scope [] ((X.mg "__name__").getD .none) c' ctv) :: pins) σ H2
        { s1 with heap := h'.push (PySem.W.kla_obj "<lambda>" (X.env.qual ++ "<lambda>") params body scope [] ((X.mg "__name__").getD .none) c' ctv), toks := tk } := I2.pins_of fun p hp => by
      rcases List.mem_cons.mp hp with rfl | hp
      · exact ⟨Heap.get?_push_size _ rfl, nF, wF.loc, wF.fs, fun v z => by cases z⟩
      · exact I2.pin p (List.mem_append_right _ hp)
    refine wpAny_mono (sortKey1_core (Q := Q) I3 (sq_B hP eB hq) (fun u ru pins' s' sub I' => ?_) (fun r hr0 => ?_)) (fun v s' ⟨y, H', J, ry, qq⟩ => ⟨y, H', J.unpin, ry, qq⟩) fun _ _ z => z
    · have ho := (I'.pin _ (List.mem_append_right _ (sub _ (.head _)))).1
      have hcr : s'.heap.CodeRec (.ref c') (X.env.qual ++ "<lambda>") := (I'.hok c' _ hc').1
      refine wpAny_call (codeAny_mono (run_lam (v := y) (t := te) (Q := fun v H => H = H2) (Room.in1 (Room.in1 hr)) I'.env0.in1.in1 ho hcr S (hb _ _ _ _ _ _) ru (hbody _ _ _ _ _ _) (hte H2 eB)) fun r s'' hq => ?_)
      cases r with
      | error e => exact False.elim hq
      | ok fl =>
        cases fl with
        | ret u => exact I'.after hq
        | next => exact False.elim hq
        | brk => exact False.elim hq
        | cont => exact False.elim hq
    · refine q r _ (back r hr0) (fun b o hb e => ?_) upd_same (tw2.ext fun b o e => by rw [upd_ne (ne_of_none e hr0)]; exact e)
      have := eB b o hb e
      rw [upd_ne (ne_of_none this hr0)]; exact this
  rcases tw with hP | ⟨c', hP, hc'⟩
  · have hPh : s1.heap.get? P = some (PySem.W.tabObj #[]) := I1.hok P _ hP
    have hgP : mainGlobals ≠ P := fun z => by
      obtain ⟨o, es, ep, e1, hd, _⟩ := hgs
      rw [z, hPh] at e1; cases e1; cases hd
    refine PyProof.Rows.kws_cons (PySem.W.kla_eval hdef (PySem.W.kla_makeFunction (mg := X.mg) hcl I1.ok.glob hgs L.code (L.hd.keeps I1.bk) hPh trivial rfl hgP ⟨bm, ob, b1, b2, b3, b4, I1.bk _ _ b5, b6⟩ fun c' ctv h' tk hx hge hlt hrec htb => PyProof.Rows.kws_nil ?_))
    have hsz : s1.heap.objs.size ≤ h'.objs.size := Nat.le_of_lt (Nat.lt_of_le_of_lt hge hlt)
    have I2 := I1.grown (more := #[rawInt lpos.line, rawInt lpos.col, .ref c']) (tk := tk) (h' := h'.push (PySem.W.kla_obj "<lambda>" (X.env.qual ++ "<lambda>") params body scope [] ((X.mg "__name__").getD .none) c' ctv)) hP (fun b o hb e => Heap.get?_push_of_some _ (hx b o hb e)) (Heap.get?_push_of_some _ htb)
    have hPlt : P < s1.heap.objs.size := Heap.lt_size hPh
    have nC1 : H1 c' = none := I1.hok.fresh hge
    have nC : upd H1 P (.tbl (#[] ++ #[rawInt lpos.line, rawInt lpos.col, .ref c'])) c' = none := by
      rw [upd_ne (Nat.ne_of_gt (Nat.lt_of_lt_of_le hPlt hge))]; exact nC1
    have wC : Aw X pins c' := I1.aw hge
    have I3 := I2.adoptX wC nC (codeO_ok (hrec.keeps fun b o e => Heap.get?_push_of_some _ e))
    have nF1 : H1 h'.objs.size = none := I1.hok.fresh hsz
    refine rest c' ctv h' tk _ I3 upd_same ?_ (I1.aw hsz) ⟨_, hP⟩ (fun b o hb e => ?_) (.inr ⟨c', ?_, upd_same⟩) fun r hr0 => ?_
    · rw [upd_ne (Nat.ne_of_gt hlt), upd_ne (Nat.ne_of_gt (Nat.lt_of_lt_of_le hPlt hsz))]; exact nF1
    · rw [upd_ne (ne_of_none e nC1), upd_ne hb]; exact e
    · rw [upd_ne (Nat.ne_of_lt (Nat.lt_of_lt_of_le hPlt hge)), upd_same]; simp
    · by_cases h1 : r = c'
      · rw [h1]; exact nC1
      · rw [upd_ne h1] at hr0
        by_cases h2 : r = P
        · rw [h2, upd_same] at hr0; cases hr0
        · rw [upd_ne h2] at hr0; exact hr0
  · have hPh : s1.heap.get? P = some (PySem.W.tabObj #[rawInt lpos.line, rawInt lpos.col, .ref c']) := I1.hok P _ hP
    refine PyProof.Rows.kws_cons (PySem.W.kla_eval hdef (PySem.W.kla_makeFunctionHit (mg := X.mg) hcl I1.ok.glob hgs L.code (L.hd.keeps I1.bk) hPh ?tri (among3 lpos _) ⟨bm, ob, b1, b2, b3, b4, I1.bk _ _ b5, b6⟩ fun ctv h' tk hk hsz => PyProof.Rows.kws_nil ?_))
    case tri => trivial
    have I2 : Inv X pins σ H1 { s1 with heap := h'.push (PySem.W.kla_obj "<lambda>" (X.env.qual ++ "<lambda>") params body scope [] ((X.mg "__name__").getD .none) c' ctv), toks := tk } := I1.kept (t' := tk) fun b o e => Heap.get?_push_of_some _ (hk b o e)
    exact rest c' ctv h' tk H1 I2 hc' (I1.hok.fresh hsz) (I1.aw hsz) ⟨_, hP⟩ (fun b o _ e => e) (.inr ⟨c', hP, hc'⟩) fun r z => z
end
end L2
namespace L2
open PySem PySem.Spec PyProof.Rows
theorem pe_lc {X : Cx} {target iter elt : Expr} {ifs : List Expr} {scope sc : Scope} {pos : Pos} {N N' : List Str} {sub : List (Option Nat)} {wi : TI} {g : TG} {tt : TT} {te : TE} (hN : X.N = N) (hsc : X.env.scope = sc)
    (O : CmpOk N sc N' scope sub) (hc : X.calm = true) (hi : PI X target iter wi)
    (B : ∀ C s H fp, PG (cmpOf X scope N' C s H fp) target g ∧ PTs (cmpOf X scope N' C s H fp) ifs tt ∧ PE (cmpOf X scope N' C s H fp) elt te)
    (hs : ∀ x, foldedSetIterable iter X.env x = pure x := by intro _; rfl) : PE X (.ListComp elt [⟨target, iter, ifs, 0⟩] scope pos) (tComp sub wi g tt te) :=
  pe_comp hc (by rw [hN, hsc]; exact O) hi B hs
theorem ps_lc {X : Cx} {target iter elt : Expr} {ifs : List Expr} {scope sc : Scope} {pos : Pos} {N N' : List Str} {sub : List (Option Nat)} {wi : TI} {g : TG} {tt : TT} {te : TE} {i : Nat} {y : Str} {py spos : Pos} (hN : X.N = N) (hsc : X.env.scope = sc)
    (O : CmpOk N sc N' scope sub) (hc : X.calm = true) (hi : PI X target iter wi)
    (B : ∀ C s H fp, PG (cmpOf X scope N' C s H fp) target g ∧ PTs (cmpOf X scope N' C s H fp) ifs tt ∧ PE (cmpOf X scope N' C s H fp) elt te)
    (nd : X.N.Nodup) (hy : X.N[i]? = some y) (hx : Loc X.env.scope y)
    (hsw : swapsWith (.ListComp elt [⟨target, iter, ifs, 0⟩] scope pos) (some (.Name y py)) spos.line X.env = pure true := by rfl)
    (hs : ∀ x, foldedSetIterable iter X.env x = pure x := by intro _; rfl) (hf : X.fn y = true ∨ X.env.scope.names.lookup y = some .local := by first | exact .inl rfl | exact .inr rfl | assumption) :
    PS X (.Assign [.Name y py] (.ListComp elt [⟨target, iter, ifs, 0⟩] scope pos) spos) (tAsg (tComp sub wi g tt te) (gName i)) :=
  ps_comp hc (by rw [hN, hsc]; exact O) hi B nd hy hx hsw hs hf
end L2
namespace My
open PySem L2
def top (i : Nat) : Stmt := PySem.Challenge.pw_roundsalone_k30_small_parts.main.body.getD i (.Pass ⟨0, 0, 0, 0⟩)
abbrev sMask : Stmt := top 1
abbrev sRowOf : Stmt := top 2
abbrev sLess : Stmt := top 3
abbrev sRedu : Stmt := top 4
abbrev sTabF : Stmt := top 5
abbrev sStepM : Stmt := top 7
abbrev sSingle : Stmt := top 9
abbrev sSplits : Stmt := top 10
abbrev sCrossed : Stmt := top 13
abbrev sShare : Stmt := top 14
abbrev sGrown : Stmt := top 15
abbrev sWidths : Stmt := top 16
abbrev sFirst : Stmt := top 17
abbrev sKind : Stmt := top 18
abbrev sParted : Stmt := top 19
abbrev sJoined : Stmt := top 23
abbrev sParts : Stmt := top 24
abbrev sPartT : Stmt := top 25
abbrev sCell : Stmt := top 27
abbrev sBig : Stmt := top 28
abbrev sNames : Stmt := top 29
abbrev sLaw : Stmt := top 30
def Ext (H H' : Hp) : Prop := ∀ b o, H b = some o → H' b = some o
theorem Ext.refl (H : Hp) : Ext H H := fun _ _ h => h
theorem Ext.trans {H H1 H2 : Hp} (a : Ext H H1) (b : Ext H1 H2) : Ext H H2 := fun c o h => b c o (a c o h)
theorem Ext.new {H : Hp} {p : Addr} (h : H p = none) (o : HO) : Ext H (upd H p o) := fun b u q => by rw [upd_ne (ne_of_none q h)]; exact q
theorem Ext.none {H H' : Hp} (e : Ext H H') {p : Addr} (h : H' p = none) : H p = none := by
  cases q : H p with
  | none => rfl
  | some o => rw [e p o q] at h; cases h
def spCell (K : PySem.W.Frag) : Sp := fun vs H Q _ => ∃ (a : Addr) (ns : List Int) (k : Int), vs = [.ref a, .int k] ∧ SqL K H a (ns.map V.int) ∧ 0 ≤ k ∧ ∀ v, Q (.int v) H
section
variable {P : Program} {w : World} {K : PySem.W.Frag} {mg : Str → Option Value} {base : Heap} {f f1 : Addr} {fd fd1 : FuncData}
theorem scCell : FnScope ["_law_script", "_law_k"] ["_law_script", "_law_k"] (defScope sCell) := ⟨rfl, rfl, rfl, by decide +kernel, rfl, by decide +kernel, by decide +kernel⟩
theorem ok_cell (F : Fun K "_law_cell_at" "_law_cell_at" sCell f fd) (ml : mg "len" = none) : FnOk P w K mg base CX0 1 f fd ["_law_script", "_law_k"] (spCell K) := by
  refine F.ok scCell (fun vs H Q E h => ?_) (fun cdv A outer s H vs Q E hr h => ?_)
  · obtain ⟨a, ns, k, rfl, _⟩ := h
    rfl
  obtain ⟨a, ns, k, rfl, hS, h0, q⟩ := h
  refine ⟨_, pss_cons (ps_if (pt_cmpR op_lt (pv 1) (pe_callB call_len_seq rfl ml PySem.boot_len (pa_cons (pv 0) pa_nil)) (nomark _)) (pss_one (ps_ret (pe_ix ix_list (pv 0) (pv 1) (fun _ _ => rfl)))) pss_nil) (pss_one (ps_ret pe_int)), ?_⟩
  try dsimp only [Cx.wish, cxOf]
  refine ⟨_, rfl, _, rfl, a, _, rfl, .inl hS, _, _, rfl, rfl, _, rfl, ?_⟩
  refine ite2 (fun c => ?_) (fun c => q 0)
  have c' : k < (((ns.map V.int).length : Nat) : Int) := of_decide_eq_true c
  rw [List.length_map] at c'
  have hk : k.toNat < ns.length := by omega
  have hv : atI (ns.map V.int) ((k.toNat : Nat) : Int) = some (.int ns[k.toNat]) := atI_nat (by rw [List.getElem?_map, List.getElem?_eq_getElem hk] <;> rfl)
  rw [Int.toNat_of_nonneg h0] at hv
  exact ⟨_, rfl, _, rfl, a, _, _, _, rfl, rfl, hS, hv, q _⟩
end
end My
namespace My
open PySem L2
theorem boot_isinst : bootBuiltins "isinstance" = some (.builtin "isinstance") := by decide +kernel
theorem kit_same (K : PySem.W.Frag) (t : Value) : PySem.W.kitOne K t t = some true := by unfold PySem.W.kitOne; rw [if_pos (beq_self_eq_true t)]
theorem boot_abs' : bootBuiltins "abs" = some (.builtin "abs") := by decide +kernel
end My
namespace My
open PySem L2
section
variable {σ0 : St} {g : TG} {tt : TT} {te : TE} {Q : List V → Hp → Prop} {H1 : Hp}
end
theorem inV_str (n : Str) : ∀ other : List Str, inV (.str n) (other.map V.str) = decide (n ∈ other)
  | [] => by simp [inV]
  | x :: r => by
    have ih := inV_str n r
    unfold inV at ih ⊢
    rw [List.map_cons, List.any_cons, ih]
    show (x == n || decide (n ∈ r)) = _
    by_cases e : n = x
    · subst e; simp
    · have e' : ¬ x = n := fun z => e z.symm
      simp [e, e']
theorem flat_strs : ∀ other : List Str, (other.map V.str).all flatV = true := fun other => by
  rw [List.all_eq_true]
  intro x hx
  obtain ⟨y, _, rfl⟩ := List.mem_map.mp hx
  rfl
def LsS (H : Hp) (a : Addr) (ss : List Str) : Prop := H a = some (.lst (ss.map V.str))
end My
namespace My
open PySem L2
abbrev sg : Str := "abcdefghijklmnopqrstuvwxyz0123456789"
def sgC (n : Nat) : Nat := sg.cps.toList.getD n 0
theorem sg_len : sg.cps.toList.length = 36 := by decide +kernel
theorem sg_nd : sg.cps.toList.Nodup := by decide +kernel
theorem sg_small : ∀ c ∈ sg.cps.toList, c < 128 := by decide +kernel
theorem sg_at {i : Int} (h0 : 0 ≤ i) (h1 : i < 36) : atI sg.cps.toList i = some (sgC i.toNat) := by
  have hk : i.toNat < sg.cps.toList.length := by rw [sg_len]; omega
  have := atI_nat (xs := sg.cps.toList) (j := i.toNat) (v := sgC i.toNat) (by
    unfold sgC
    rw [List.getD_eq_getElem?_getD, List.getElem?_eq_getElem hk]; rfl)
  rw [Int.toNat_of_nonneg h0] at this
  exact this
theorem sgC_inj {i j : Nat} (hi : i < 36) (hj : j < 36) (e : sgC i = sgC j) : i = j := by
  have hi' : i < sg.cps.toList.length := by rw [sg_len]; exact hi
  have hj' : j < sg.cps.toList.length := by rw [sg_len]; exact hj
  unfold sgC at e
  rw [List.getD_eq_getElem?_getD, List.getD_eq_getElem?_getD, List.getElem?_eq_getElem hi', List.getElem?_eq_getElem hj'] at e
  exact (List.getElem_inj sg_nd).mp e
def Sm (x : Str) : Prop := ∀ c ∈ x.cps.toList, c < 128
theorem Sm.ok {x : Str} (h : Sm x) : PyData.strOk x = true := by
  unfold PyData.strOk
  rw [Array.all_eq_true_iff_forall_mem]
  intro c hc
  have := h c (by simpa using hc)
  exact decide_eq_true (by omega)
theorem Sm.app {x y : Str} (h : Sm x) (h' : Sm y) : Sm (x ++ y) := fun c hc => by
  rw [Str.cps_append, Array.toList_append, List.mem_append] at hc
  exact hc.elim (h c) (h' c)
theorem Sm.one {c : Nat} (h : c < 128) : Sm ⟨#[c]⟩ := fun d hd => by
  have : d = c := by simpa using hd
  omega
theorem Sm.nil : Sm "" := fun c hc => by
  have : c ∈ ([] : List Nat) := hc
  cases this
theorem Sm.slice {x : Str} (h : Sm x) (l u : Option Int) : Sm (Txt.slice x l u) := fun c hc => by
  unfold Txt.slice at hc
  split at hc
  · exact h c hc
  · simp only [List.mem_filterMap] at hc
    obtain ⟨i, _, hi⟩ := hc
    exact h c (by simpa using Array.mem_of_getElem? hi)
end My
namespace My
open PySem L2
def rowD (r : List Str) : PyData := .list (r.map .str)
end My
namespace My
open PySem L2
theorem room64 {k : Nat} {A : Around} (hr : Room k A) : A.units + 64 < cLine := by have := hr.un; omega
theorem boot_list' : bootBuiltins "list" = some (.type "list") := by decide +kernel
theorem boot_sorted' : bootBuiltins "sorted" = some (.builtin "sorted") := by decide +kernel
end My
namespace L2
open PySem PySem.Spec PyProof.Rows
end L2
namespace My
open PySem L2
abbrev Tr := Str × Str × Str
end My
namespace My
open PySem L2
end My
namespace My
open PySem L2
abbrev trV (t : Tr) : List V := [.str t.1, .str t.2.1, .str t.2.2]
def NetAt (H : Hp) (p : Addr) (net : List Tr) : Prop := ∃ as : List Addr, H p = some (.lst (as.map V.ref)) ∧ Paired (fun a t => H a = some (.tup (trV t))) as net
theorem NetAt.ext {H H' : Hp} {p : Addr} {net : List Tr} (h : NetAt H p net) (e : Ext H H') : NetAt H' p net := by
  obtain ⟨as, h1, h2⟩ := h
  exact ⟨as, e _ _ h1, Paired.mapP h2 fun a t z => e _ _ z⟩
theorem paired_get {α β : Type} {R : α → β → Prop} : ∀ {as : List α} {bs : List β} {i : Nat} {a : α}, Paired R as bs → as[i]? = some a → ∃ b, bs[i]? = some b ∧ R a b
  | _, _, _, _, .nil, e => by simp at e
  | _, _, 0, _, .cons h _, e => by simp at e; subst e; exact ⟨_, rfl, h⟩
  | _, _, i + 1, _, .cons _ t, e => by
    obtain ⟨b, h1, h2⟩ := paired_get (i := i) t (by simpa using e)
    exact ⟨b, by simpa using h1, h2⟩
theorem take_snoc {α : Type} {l : List α} {i : Nat} {t : α} (h : l[i]? = some t) : l.take (i + 1) = l.take i ++ [t] := by rw [List.take_add_one, h]; rfl
theorem at_lt {α : Type} {l : List α} {i : Nat} {t : α} (h : l[i]? = some t) : i < l.length := (List.getElem?_eq_some_iff.mp h).1
section
variable {P : Program} {w : World} {K : PySem.W.Frag} {mg : Str → Option Value} {base : Heap} {f f1 : Addr} {fd fd1 : FuncData}
end
end My
namespace My
open PySem L2
theorem Ext.over {H H' : Hp} {d : Addr} (e : Ext H H') (h : H d = Option.none) (o : HO) : Ext H (upd H' d o) := fun b u q => by rw [upd_ne (ne_of_none q h)]; exact e b u q
def hD (ps : List Str) (f : Str → Str) : List (Key × V) := ps.map fun p => (Sum.inr p, V.str (f p))
section
variable {P : Program} {w : World} {K : PySem.W.Frag} {mg : Str → Option Value} {base : Heap} {f f1 : Addr} {fd fd1 : FuncData}
end
end My
namespace My
open PySem L2
def RowsAt (H : Hp) (p : Addr) (F : List (List Str)) : Prop := ∃ as : List Addr, H p = some (.lst (as.map V.ref)) ∧ Paired (LsS H) as F
theorem RowsAt.ext {H H' : Hp} {p : Addr} {F : List (List Str)} (h : RowsAt H p F) (e : Ext H H') : RowsAt H' p F := by
  obtain ⟨as, h1, h2⟩ := h
  exact ⟨as, e _ _ h1, Paired.mapP h2 fun a r z => e _ _ z⟩
def RowsY (H0 H : Hp) (fo : Addr) (F : List (List Str)) : Prop := ∃ as : List Addr, H fo = some (.lst (as.map V.ref)) ∧ Paired (fun a r => LsS H a r ∧ H0 a = none ∧ a ≠ fo) as F
theorem RowsY.rows {H0 H : Hp} {p : Addr} {F : List (List Str)} (h : RowsY H0 H p F) : RowsAt H p F := by
  obtain ⟨as, h1, h2⟩ := h
  exact ⟨as, h1, Paired.mapP h2 fun a r z => z.1⟩
theorem RowsY.ext {H0 H H' : Hp} {p : Addr} {F : List (List Str)} (h : RowsY H0 H p F) (e : Ext H H') : RowsY H0 H' p F := by
  obtain ⟨as, h1, h2⟩ := h
  exact ⟨as, e _ _ h1, Paired.mapP h2 fun a r z => ⟨e _ _ z.1, z.2⟩⟩
def RowsZ (H0 H : Hp) (fo : Addr) (F : List (List Str)) : Prop := ∃ as : List Addr, as.Nodup ∧ H fo = some (.lst (as.map V.ref)) ∧ Paired (fun a r => LsS H a r ∧ H0 a = none ∧ a ≠ fo) as F
theorem RowsZ.y {H0 H : Hp} {p : Addr} {F : List (List Str)} (h : RowsZ H0 H p F) : RowsY H0 H p F := by
  obtain ⟨as, _, h1, h2⟩ := h
  exact ⟨as, h1, h2⟩
theorem paired_memA {α β : Type} {R : α → β → Prop} : ∀ {as : List α} {bs : List β}, Paired R as bs → ∀ a ∈ as, ∃ b ∈ bs, R a b
  | _, _, .nil, a, h => by cases h
  | _, _, .cons h t, a, ha => by
    rcases List.mem_cons.mp ha with rfl | z
    · exact ⟨_, List.mem_cons_self, h⟩
    · obtain ⟨b, hb, hr⟩ := paired_memA t a z
      exact ⟨b, List.mem_cons_of_mem _ hb, hr⟩
theorem getD_rangeA (as : List Addr) : (List.range as.length).map (fun i => as.getD i 0) = as := by
  refine List.ext_getElem? fun i => ?_
  by_cases hi : i < as.length
  · rw [List.getElem?_map, List.getElem?_range hi, List.getElem?_eq_getElem hi]
    show some (as.getD i 0) = _
    rw [List.getD_eq_getElem?_getD, List.getElem?_eq_getElem hi]; rfl
  · rw [List.getElem?_eq_none (by simp; omega), List.getElem?_eq_none (by omega)]
theorem pick_perm {as : List Addr} {o : Array Nat} (g : Gd as.length o) : (o.toList.map fun i => as.getD i 0).Perm as :=
  ((Array.perm_iff_toList_perm.mp g).map fun i => as.getD i 0).trans (List.Perm.of_eq (getD_rangeA as))
end My
namespace My
open PySem L2
def Sgd (s : Str) : Prop := ∀ c ∈ s.cps.toList, c ∈ sg.cps.toList
theorem sgC_mem {i : Nat} (hi : i < 36) : sgC i ∈ sg.cps.toList := by
  have hi' : i < sg.cps.toList.length := by rw [sg_len]; exact hi
  unfold sgC
  rw [List.getD_eq_getElem?_getD, List.getElem?_eq_getElem hi']
  exact List.getElem_mem hi'
theorem Sgd.sm {s : Str} (h : Sgd s) : Sm s := fun c hc => sg_small c (h c hc)
theorem Sgd.app {x y : Str} (h : Sgd x) (h' : Sgd y) : Sgd (x ++ y) := fun c hc => by
  rw [Str.cps_append, Array.toList_append, List.mem_append] at hc
  exact hc.elim (h c) (h' c)
theorem Sgd.one {i : Nat} (hi : i < 36) : Sgd ⟨#[sgC i]⟩ := fun d hd => by
  have : d = sgC i := by simpa using hd
  rw [this]; exact sgC_mem hi
theorem Sgd.nil : Sgd "" := fun c hc => by
  have : c ∈ ([] : List Nat) := hc
  cases this
theorem Sgd.slice {x : Str} (h : Sgd x) (l u : Option Int) : Sgd (Txt.slice x l u) := fun c hc => by
  unfold Txt.slice at hc
  split at hc
  · exact h c hc
  · simp only [List.mem_filterMap] at hc
    obtain ⟨i, _, hi⟩ := hc
    exact h c (by simpa using Array.mem_of_getElem? hi)
def Named (s : Str) : Prop := Sgd s ∧ 1 ≤ s.length ∧ s.length ≤ 6
theorem slice_to_le {x : Str} {j : Int} (h0 : 0 ≤ j) (h1 : j ≤ x.length) : (Txt.slice x none (some j)).length ≤ j.toNat := by
  have e : Txt.slice x none (some j) = _ := PySem.StrLaws.sliceText_to (x := x) (j := j) ⟨h0, h1⟩
  rw [e]
  show (List.toArray _).size ≤ _
  rw [List.size_toArray, List.length_take]
  omega
theorem slice_from_le {x : Str} {j : Int} (h0 : 0 ≤ j) (h1 : j ≤ x.length) : (Txt.slice x (some j) none).length ≤ x.length - j.toNat := by
  have e : Txt.slice x (some j) none = _ := PySem.StrLaws.sliceText_from (x := x) (i := j) ⟨h0, h1⟩
  rw [e]
  show (List.toArray _).size ≤ _
  rw [List.size_toArray, List.length_take, List.length_drop]
  have : x.cps.toList.length = x.length := rfl
  omega
end My
namespace My
open PySem L2
def spBig (K : PySem.W.Frag) : Sp := fun vs H Q _ => ∃ (a : Addr) (ns : List Int) (k : Int), vs = [.ref a, .int k] ∧ SqL K H a (ns.map V.int) ∧ 0 ≤ k ∧ k ≤ 100 ∧ ∀ v, Q (.int v) H
def Tx (ss : List Str) : Prop := ∀ s ∈ ss, Named s
def spNames : Sp := fun vs H Q _ => ∃ (b n : Int), vs = [.int b, .int n] ∧ 0 ≤ n ∧ n ≤ 100 ∧ ∀ (r : Addr) (ss : List Str) (H' : Hp), Ext H H' → H r = none → LsS H' r ss → ss.length = n.toNat → Tx ss → (n ≤ 36 → ss.Nodup) → Q (.ref r) H'
def nmF (pre post : Str) (f : Int) (k : Nat) : Str := pre ++ ⟨#[sgC ((f + 7 * (0 + (k : Int))) % 36).toNat]⟩ ++ post
theorem nmF_inj {pre post : Str} {f : Int} {i j : Nat} (hi : i < 36) (hj : j < 36) (e : nmF pre post f i = nmF pre post f j) : i = j := by
  have e1 := congrArg (fun s : Str => s.cps.toList) e
  unfold nmF at e1
  simp only [Str.cps_append, Array.toList_append] at e1
  have e2 := List.append_cancel_left (List.append_cancel_right e1)
  have a0 := Int.emod_nonneg (f + 7 * (0 + (i : Int))) (show (36 : Int) ≠ 0 by decide)
  have a1 := Int.emod_lt_of_pos (f + 7 * (0 + (i : Int))) (show (0 : Int) < 36 by decide)
  have b0 := Int.emod_nonneg (f + 7 * (0 + (j : Int))) (show (36 : Int) ≠ 0 by decide)
  have b1 := Int.emod_lt_of_pos (f + 7 * (0 + (j : Int))) (show (0 : Int) < 36 by decide)
  have e3 : sgC ((f + 7 * (0 + (i : Int))) % 36).toNat = sgC ((f + 7 * (0 + (j : Int))) % 36).toNat := by simpa using e2
  have e4 := sgC_inj (by omega) (by omega) e3
  omega
theorem nd_range {g : Nat → Str} : ∀ {n : Nat}, (∀ i j, i < n → j < n → g i = g j → i = j) → ((List.range n).map g).Nodup
  | 0, _ => List.nodup_nil
  | n + 1, h => by
    rw [List.range_succ, List.map_append, List.nodup_append]
    refine ⟨nd_range fun i j hi hj => h i j (by omega) (by omega), by simp, fun a ha b hb => ?_⟩
    obtain ⟨i, hi, rfl⟩ := List.mem_map.mp ha
    rw [List.map_singleton, List.mem_singleton] at hb
    subst hb
    rw [List.mem_range] at hi
    intro z
    have := h i n (by omega) (by omega) z
    omega
section
variable {P : Program} {w : World} {K : PySem.W.Frag} {mg : Str → Option Value} {base : Heap} {f f1 f2 : Addr} {fd fd1 fd2 : FuncData}
abbrev bgN : List Str := ["_law_script", "_law_k", "_law_x", "_law_total", "_law_j"]
theorem scBig : FnScope bgN ["_law_script", "_law_k"] (defScope sBig) := ⟨rfl, rfl, rfl, by decide +kernel, rfl, by decide +kernel, by decide +kernel⟩
set_option maxHeartbeats 4000000 in
theorem ok_big (F : Fun K "_law_big" "_law_big" sBig f fd) (G : FnOk P w K mg base CX0 1 f1 fd1 ["_law_script", "_law_k"] (spCell K)) (bG : Binds K fd1 ["_law_script", "_law_k"] []) (kG : PySem.W.keepIn K (.ref f1) = true) (mG : mg "_law_cell_at" = some (.ref f1)) (mr : mg "range" = none) (ma : mg "abs" = none) :
    FnOk P w K mg base CX0 2 f fd ["_law_script", "_law_k"] (spBig K) := by
  refine F.ok scBig (fun vs H Q E h => ?_) (fun cdv A outer s H vs Q E hr h => ?_)
  · obtain ⟨a, ns, k, rfl, _⟩ := h
    rfl
  obtain ⟨a, ns, k, rfl, hS, h0, h1, q⟩ := h
  refine ⟨_, pss_cons (ps_if (pt_cmpR op_ge (pe_callB call_abs rfl ma boot_abs' (pa_cons (pe_call G hr rfl mG kG bG .nil pass0 (pa_cons (pv 0) (pa_cons (pv 1) pa_nil))) pa_nil)) (pe_op op_pow pe_int pe_int) (nomark _))
      (pss_one (ps_ret (pe_op op_sub (pe_callB call_abs rfl ma boot_abs' (pa_cons (pe_call G hr rfl mG kG bG .nil pass0 (pa_cons (pv 0) (pa_cons (pv 1) pa_nil))) pa_nil)) (pe_op op_pow pe_int pe_int)))) pss_nil)
    (pss_cons (ps_set (i := 2) scBig.nd rfl (Or.inl rfl) (pe_op op_add (pe_op op_add (pe_op op_add (pe_op op_mod (pe_call G hr rfl mG kG bG .nil pass0 (pa_cons (pv 0) (pa_cons pe_int pa_nil))) pe_int) (pe_op op_mul pe_int (pv 1))) (pe_op op_mul pe_int (pe_call G hr rfl mG kG bG .nil pass0 (pa_cons (pv 0) (pa_cons (pv 1) pa_nil))))) pe_int))
    (pss_cons (ps_set (i := 2) scBig.nd rfl (Or.inl rfl) (pe_op op_add (pe_op op_mod (pv 2) pe_int) pe_int))
    (pss_cons (ps_set (i := 3) scBig.nd rfl (Or.inl rfl) pe_int)
    (pss_cons (ps_for PassesOwn.never rfl (pi_range1 rfl mr (pa_cons pe_int pa_nil)) (pg_name (i := 4) scBig.nd rfl (Or.inl rfl))
      (pss_cons (ps_set (i := 2) scBig.nd rfl (Or.inl rfl) (pe_op op_mod (pe_op op_add (pe_op op_add (pe_op op_add (pe_op op_mul (pv 2) pe_int) (pe_op op_fdiv (pv 2) pe_int)) (pe_op op_mul (pe_op op_mul pe_int (pv 4)) (pv 4))) (pv 1)) pe_int))
      (pss_one (ps_set (i := 3) scBig.nd rfl (Or.inl rfl) (pe_op op_add (pe_op op_mul (pv 3) pe_int) (pe_op op_mod (pe_op op_mul (pv 2) pe_int) pe_int))))))
    (pss_one (ps_ret (pv 3))))))), ?_⟩
  try dsimp only [Cx.wish, cxOf]
  refine ⟨_, rfl, _, rfl, a, ns, k, rfl, hS, h0, fun v => ⟨v, rfl, ?_⟩⟩
  refine ⟨_, _, rfl, rfl, ⟨by decide, by decide, by decide⟩, _, _, rfl, rfl, _, rfl, ?_⟩
  refine ite2 (fun c => ?_) (fun c => ?_)
  · refine ⟨_, rfl, _, rfl, a, ns, k, rfl, hS, h0, fun v => ⟨v, rfl, ?_⟩⟩
    exact ⟨_, _, rfl, rfl, ⟨by decide, by decide, by decide⟩, _, _, rfl, rfl, q _⟩
  refine ⟨_, rfl, a, ns, 0, rfl, hS, by decide, fun v1 => ?_⟩
  refine ⟨_, _, rfl, rfl, (by show (0 : Int) < _; decide), _, rfl, _, _, rfl, rfl, .inl ⟨by decide, by decide⟩, _, _, rfl, rfl, ?_⟩
  refine ⟨_, rfl, _, rfl, a, ns, k, rfl, hS, h0, fun v2 => ?_⟩
  refine ⟨_, _, rfl, rfl, .inl ⟨by decide, by decide⟩, _, _, rfl, rfl, _, _, rfl, rfl, ?_⟩
  refine ⟨_, rfl, _, _, rfl, rfl, (by show (0 : Int) < _; decide), _, _, rfl, rfl, ?_⟩
  refine ⟨8, rfl, by decide, by decide, for_range (lo := 0) (n := 8) (fun i σ H' => H' = H ∧ ∃ (x t : Int) (z : Option V), σ = [some (.ref a), some (.int k), some (.int x), some (.int t), z]) ⟨rfl, _, 0, none, rfl⟩ ?_ ?_⟩
  · rintro i σ H' hi ⟨rfl, x, t, z, rfl⟩
    refine ⟨_, rfl, _, _, rfl, rfl, .inr ⟨by decide, by decide⟩, _, rfl, _, _, rfl, rfl, ⟨by decide, by decide⟩, _, _, rfl, rfl, ?_⟩
    refine ⟨_, rfl, _, _, rfl, rfl, .inl ⟨by decide, by decide⟩, _, rfl, _, _, rfl, rfl, .inr ⟨by omega, by omega⟩, _, _, rfl, rfl, ?_⟩
    refine ⟨_, rfl, _, _, rfl, rfl, _, _, rfl, rfl, (by show (0 : Int) < _; decide), ?_⟩
    refine ⟨_, rfl, _, _, rfl, rfl, .inr ⟨by decide, by decide⟩, _, rfl, _, _, rfl, rfl, .inr ⟨by decide, by decide⟩, _, _, rfl, rfl, (by show (0 : Int) < _; decide), _, _, rfl, rfl, ?_⟩
    exact ⟨rfl, _, _, _, rfl⟩
  · rintro σ H' ⟨rfl, x, t, z, rfl⟩
    exact ⟨_, rfl, q _⟩
abbrev naN : List Str := ["_law_big_here", "_law_many", "_law_signs", "_law_word", "_law_k", "_law_spot", "_law_first", "_law_head", "_law_tail"]
theorem scNames : FnScope naN ["_law_big_here", "_law_many"] (defScope sNames) := ⟨rfl, rfl, rfl, by decide +kernel, rfl, by decide +kernel, by decide +kernel⟩
set_option maxHeartbeats 4000000 in
theorem ok_names (F : Fun K "_law_names" "_law_names" sNames f fd) (mr : mg "range" = none) (ml : mg "len" = none) : FnOk P w K mg base CX0 1 f fd ["_law_big_here", "_law_many"] spNames := by
  refine F.ok scNames (fun vs H Q E h => ?_) (fun cdv A outer s H vs Q E hr h => ?_)
  · obtain ⟨b, n, rfl, _⟩ := h
    rfl
  obtain ⟨b, n, rfl, n0, n1, q⟩ := h
  refine ⟨_, pss_cons (ps_set (i := 2) scNames.nd rfl (Or.inr rfl) pe_str)
    (pss_cons (ps_set (i := 3) scNames.nd rfl (Or.inl rfl) pe_str)
    (pss_cons (ps_for PassesOwn.never rfl (pi_range1 rfl mr (pa_cons (pe_op op_add pe_int (pe_op op_mod (pv 0) pe_int)) pa_nil)) (pg_name (i := 4) scNames.nd rfl (Or.inl rfl))
      (pss_cons (ps_set (i := 3) scNames.nd rfl (Or.inl rfl) (pe_op op_add_str (pv 3) (pe_ix ix_str (pv 2) (pe_op op_mod (pe_op op_fdiv (pv 0) pe_int) pe_int) (fun _ _ => rfl))))
      (pss_one (ps_set (i := 0) scNames.nd rfl (Or.inl rfl) (pe_op op_fdiv (pv 0) pe_int)))))
    (pss_cons (ps_set (i := 5) scNames.nd rfl (Or.inl rfl) (pe_op op_mod (pe_op op_fdiv (pv 0) pe_int) (pe_callB call_len_str rfl ml PySem.boot_len (pa_cons (pv 3) pa_nil))))
    (pss_cons (ps_set (i := 6) scNames.nd rfl (Or.inr rfl) (pe_op op_mod (pe_op op_fdiv (pv 0) pe_int) pe_int))
    (pss_cons (ps_asg (pe_tup (pa_cons (pe_slice sl_str (pv 3) po_none (po_some (pv 5))) (pa_cons (pe_slice sl_str (pv 3) (po_some (pe_op op_add (pv 5) pe_int)) po_none) pa_nil))) (pg_tup rfl (pgs_cons (pg_name (i := 7) scNames.nd rfl (Or.inr rfl)) (pgs_cons (pg_name (i := 8) scNames.nd rfl (Or.inr rfl)) pgs_nil))))
    (pss_one (ps_ret (pe_lc (N := naN) (sc := defScope sNames) (N' := ["_law_k", "_law_head", "_law_signs", "_law_first", "_law_tail"]) (sub := [none, some 7, some 2, some 6, some 8]) rfl rfl (CmpOk.of (by decide +kernel)) rfl (pi_range1 rfl mr (pa_cons (pv 1) pa_nil))
      (fun C s H fp => ⟨pg_name (i := 0) (by show (["_law_k", "_law_head", "_law_signs", "_law_first", "_law_tail"] : List Str).Nodup; decide) rfl (Or.inl rfl), pts_nil,
        pe_op op_add_str (pe_op op_add_str (pv 1) (pe_ix ix_str (pv 2) (pe_op op_mod (pe_op op_add (pv 3) (pe_op op_mul pe_int (pv 0))) pe_int) (fun _ _ => rfl))) (pv 4)⟩))))))))), ?_⟩
  try dsimp only [Cx.wish, cxOf]
  have b6 := Int.emod_nonneg b (show (6 : Int) ≠ 0 by decide)
  have b6' := Int.emod_lt_of_pos b (show (0 : Int) < 6 by decide)
  refine ⟨_, rfl, _, _, rfl, rfl, (by show (0 : Int) < _; decide), _, _, rfl, rfl, 1 + b % 6, rfl, by omega, by omega, ?_⟩
  refine for_range (lo := 0) (n := (1 + b % 6).toNat) (fun i σ H' => H' = H ∧ ∃ (b' : Int) (word : Str) (x : Option V), σ = [some (.int b'), some (.int n), some (.str sg), some (.str word), x, none, none, none, none] ∧ word.length = i ∧ Sgd word) ⟨rfl, b, "", none, rfl, rfl, Sgd.nil⟩ ?_ ?_
  · rintro i σ H' hi ⟨rfl, b', word, x, rfl, hw, sm⟩
    have c1 := Int.emod_nonneg (b' / 6) (show (36 : Int) ≠ 0 by decide)
    have c2 := Int.emod_lt_of_pos (b' / 6) (show (0 : Int) < 36 by decide)
    refine ⟨_, rfl, _, rfl, _, rfl, _, _, rfl, rfl, ⟨by decide, by decide⟩, _, _, rfl, rfl, (by show (0 : Int) < _; decide), sg, _, sgC (b' / 6 % 36).toNat, rfl, rfl, by decide +kernel, sg_at c1 c2, word, ⟨#[sgC (b' / 6 % 36).toNat]⟩, rfl, rfl, ?_, ?_⟩
    · show word.length + 1 ≤ sizeLine
      exact Nat.le_of_lt (small1000 (by omega))
    · refine ⟨_, rfl, _, _, rfl, rfl, ⟨by decide, by decide⟩, ?_⟩
      refine ⟨rfl, _, _, _, rfl, ?_, sm.app (Sgd.one (by omega))⟩
      rw [Str.length_append]
      show word.length + 1 = i + 1
      omega
  · rintro σ H' ⟨rfl, b', word, x, rfl, hw, sm⟩
    have wl : word.length ≤ sizeLine := Nat.le_of_lt (small1000 (by omega))
    have fa := Int.emod_nonneg (b' / 216) (show (36 : Int) ≠ 0 by decide)
    have fb := Int.emod_lt_of_pos (b' / 216) (show (0 : Int) < 36 by decide)
    refine ⟨_, rfl, _, _, rfl, rfl, ⟨by decide, by decide⟩, _, rfl, word, rfl, wl, _, _, rfl, rfl, (by show (0 : Int) < _; omega), ?_⟩
    refine ⟨_, rfl, _, _, rfl, rfl, ⟨by decide, by decide⟩, _, _, rfl, rfl, (by show (0 : Int) < _; decide), ?_⟩
    obtain ⟨spot, hsp⟩ : ∃ spot, b' / 6 % ((word.length : Nat) : Int) = spot := ⟨_, rfl⟩
    refine ⟨_, rfl, _, rfl, _, rfl, word, rfl, wl, _, rfl, _, rfl, _, _, rfl, rfl, _, rfl, word, rfl, wl, (by show 2 ≤ sizeLine; decide), fun T hT => ⟨T, _, rfl, SqT.of upd_same, rfl, _, _, rfl, _, _, rfl, rfl, ?_⟩⟩
    have l1 := Txt.slice_le word none (some spot)
    have l2 := Txt.slice_le word (some (spot + 1)) none
    have s1 := sm.slice none (some spot)
    have s2 := sm.slice (some (spot + 1)) none
    have X1 := Ext.new hT (.tup [V.str (Txt.slice word none (some spot)), V.str (Txt.slice word (some (spot + 1)) none)])
    refine ⟨_, rfl, n, rfl, by omega, by omega, ?_⟩
    refine turns_range (lo := 0) (n := n.toNat) (fun i ys H2 => H2 = upd H' T (.tup [V.str (Txt.slice word none (some spot)), V.str (Txt.slice word (some (spot + 1)) none)]) ∧ ∃ ss : List Str, ys = ss.map V.str ∧ ss.length = i ∧ Tx ss ∧ ss = (List.range i).map (nmF (Txt.slice word none (some spot)) (Txt.slice word (some (spot + 1)) none) (b' / 216 % 36))) ⟨by rw [hsp], [], rfl, rfl, (fun s hs => by cases hs), rfl⟩ ?_ ?_
    · rintro i ys H2 hi ⟨rfl, ss, rfl, ls, tx, eq⟩
      have ea := Int.emod_nonneg (b' / 216 % 36 + 7 * (0 + (i : Int))) (show (36 : Int) ≠ 0 by decide)
      have eb := Int.emod_lt_of_pos (b' / 216 % 36 + 7 * (0 + (i : Int))) (show (0 : Int) < 36 by decide)
      rw [hsp]
      refine ⟨Sle.set _ (Sle.refl _) (fun u z => by cases z), iteT (B := False) ⟨_, rfl, _, rfl, _, rfl, _, rfl, _, _, rfl, rfl, .inl ⟨by decide, by decide⟩, _, _, rfl, rfl, _, _, rfl, rfl, (by show (0 : Int) < _; decide), sg, _, sgC ((b' / 216 % 36 + 7 * (0 + (i : Int))) % 36).toNat, rfl, rfl, by decide +kernel, sg_at ea eb, _, _, rfl, rfl, ?_, _, rfl, _, _, rfl, rfl, ?_, ?_, nxt hi ⟨rfl, ss ++ [Txt.slice word none (some spot) ++ ⟨#[sgC ((b' / 216 % 36 + 7 * (0 + (i : Int))) % 36).toNat]⟩ ++ Txt.slice word (some (spot + 1)) none], ?_, ?_, ?_, ?_⟩⟩⟩
      · show _ + 1 ≤ sizeLine
        exact Nat.le_of_lt (small1000 (by omega))
      · rw [Str.length_append]
        show _ + 1 + _ ≤ sizeLine
        exact Nat.le_of_lt (small1000 (by omega))
      · rw [List.length_map]
        exact small1000 (by omega)
      · rw [List.map_append]; rfl
      · rw [List.length_append, ls]; rfl
      · intro s hs
        rcases List.mem_append.mp hs with z | z
        · exact tx s z
        · rw [List.mem_singleton] at z
          subst z
          have sp0 : 0 ≤ spot := by rw [← hsp]; exact Int.emod_nonneg _ (by omega)
          have sp1 : spot < (word.length : Int) := by rw [← hsp]; exact Int.emod_lt_of_pos _ (by omega)
          have la := slice_to_le (x := word) (j := spot) sp0 (by omega)
          have lb := slice_from_le (x := word) (j := spot + 1) (by omega) (by omega)
          have lc : (⟨#[sgC ((b' / 216 % 36 + 7 * (0 + (i : Int))) % 36).toNat]⟩ : Str).length = 1 := rfl
          refine ⟨(s1.app (Sgd.one (by omega))).app s2, ?_, ?_⟩
          · rw [Str.length_append, Str.length_append, lc]; omega
          · rw [Str.length_append, Str.length_append, lc]; omega
      · rw [eq, List.range_succ, List.map_append]; rfl
    · rintro ys H2 ⟨rfl, ss, rfl, ls, tx, eq⟩ r hr'
      exact q r ss _ (X1.trans (Ext.new hr' _)) (X1.none hr') upd_same ls tx (fun n36 => by rw [eq]; exact nd_range fun i j hi hj => nmF_inj (by omega) (by omega))
end
end My
namespace My
theorem tb_ge {x i : Nat} (h : x.testBit i = true) : 2 ^ i ≤ x := by
  rcases Nat.lt_or_ge x (2 ^ i) with z | z
  · rw [Nat.testBit_lt_two_pow z] at h; cases h
  · exact z
theorem log2_of {x i : Nat} (h1 : x.testBit i = true) (h2 : x < 2 ^ (i + 1)) : x.log2 = i := by
  have g := tb_ge h1
  have nz : x ≠ 0 := fun z => by subst z; simp at h1
  have a := (Nat.log2_lt nz).mpr h2
  have b := (Nat.le_log2 nz).mpr g
  omega
theorem tb_le {x i : Nat} (h : x.testBit i = true) : i ≤ x.log2 := by
  have nz : x ≠ 0 := fun z => by subst z; simp at h
  exact (Nat.le_log2 nz).mpr (tb_ge h)
theorem xor_one_even {n : Nat} (h : n % 2 = 0) : n ^^^ 1 = n + 1 := by
  have d : (n ^^^ 1) / 2 = n / 2 := by rw [Nat.xor_div_two]; simp
  have b : (n ^^^ 1).testBit 0 = true := by rw [Nat.testBit_xor, Nat.testBit_zero, Nat.testBit_zero]; simp [h]
  rw [Nat.testBit_zero] at b
  have b' := of_decide_eq_true b
  omega
theorem xor_one_odd {n : Nat} (h : n % 2 = 1) : n ^^^ 1 = n - 1 := by
  have d : (n ^^^ 1) / 2 = n / 2 := by rw [Nat.xor_div_two]; simp
  have b : (n ^^^ 1).testBit 0 = false := by rw [Nat.testBit_xor, Nat.testBit_zero, Nat.testBit_zero]; simp [h]
  rw [Nat.testBit_zero] at b
  have b' := of_decide_eq_false b
  omega
theorem shr_log2 {s : Nat} (hs : s ≠ 0) : s >>> s.log2 = 1 := by
  rw [Nat.shiftRight_eq_div_pow]
  have a := Nat.log2_self_le hs
  have b : s < 2 ^ (s.log2 + 1) := Nat.lt_log2_self
  rw [Nat.pow_succ] at b
  have p : 0 < 2 ^ s.log2 := Nat.pow_pos (by decide)
  exact Nat.div_eq_of_lt_le (by omega) (by omega)
theorem xor_lt_iff (x : Nat) {s : Nat} (hs : s ≠ 0) : x ^^^ s < x ↔ x.testBit s.log2 = true := by
  have e : (x ^^^ s) >>> s.log2 = (x >>> s.log2) ^^^ 1 := by rw [Nat.shiftRight_xor_distrib, shr_log2 hs]
  have tb : x.testBit s.log2 = decide ((x >>> s.log2) % 2 = 1) := by rw [Nat.testBit_eq_decide_div_mod_eq, Nat.shiftRight_eq_div_pow]
  rw [tb]
  have lt : ∀ {a b : Nat}, a >>> s.log2 < b >>> s.log2 → a < b := fun {a b} h => by
    rw [Nat.shiftRight_eq_div_pow, Nat.shiftRight_eq_div_pow] at h
    rcases Nat.lt_or_ge a b with z | z
    · exact z
    · have := Nat.div_le_div_right (c := 2 ^ s.log2) z
      omega
  rcases Nat.mod_two_eq_zero_or_one (x >>> s.log2) with h | h
  · rw [xor_one_even h] at e
    have : x < x ^^^ s := lt (by omega)
    constructor
    · intro z; omega
    · intro z; rw [h] at z; simp at z
  · rw [xor_one_odd h] at e
    have : x ^^^ s < x := lt (by rw [e]; exact Nat.sub_one_lt fun z => by rw [z] at h; cases h)
    exact ⟨fun _ => by simp [h], fun _ => this⟩
def rd1 (x s : Nat) : Nat := if x.testBit s.log2 = true then x ^^^ s else x
theorem min_rd1 (x : Nat) {s : Nat} (hs : s ≠ 0) : (if x ^^^ s < x then x ^^^ s else x) = rd1 x s := by
  unfold rd1
  by_cases h : x.testBit s.log2 = true
  · rw [if_pos h, if_pos ((xor_lt_iff x hs).mpr h)]
  · rw [if_neg h, if_neg (fun z => h ((xor_lt_iff x hs).mp z))]
theorem rd1_bit (x s i : Nat) : (rd1 x s).testBit i = (x.testBit i ^^ (x.testBit s.log2 && s.testBit i)) := by
  unfold rd1
  by_cases h : x.testBit s.log2 = true
  · rw [if_pos h, Nat.testBit_xor, h, Bool.true_and]
  · rw [if_neg h]
    have : x.testBit s.log2 = false := by simpa using h
    rw [this]; simp
def red1 (k : List Nat) (x : Nat) : Nat := k.foldl rd1 x
structure RR (k : List Nat) : Prop where
  nz : ∀ s ∈ k, s ≠ 0
  ap : k.Pairwise fun s t => t.testBit s.log2 = false ∧ s.testBit t.log2 = false
theorem RR.nil : RR [] := ⟨fun s h => (by cases h), .nil⟩
theorem RR.tl {s : Nat} {k : List Nat} (h : RR (s :: k)) : RR k := ⟨fun t ht => h.nz t (List.mem_cons_of_mem _ ht), (List.pairwise_cons.mp h.ap).2⟩
theorem RR.hd {s : Nat} {k : List Nat} (h : RR (s :: k)) : ∀ t ∈ k, t.testBit s.log2 = false ∧ s.testBit t.log2 = false := (List.pairwise_cons.mp h.ap).1
theorem RR.ne : ∀ {k : List Nat}, RR k → ∀ {s t : Nat}, s ∈ k → t ∈ k → s ≠ t → s.testBit t.log2 = false
  | [], _, _, _, hs, _, _ => by cases hs
  | a :: k, h, s, t, hs, ht, e => by
    rcases List.mem_cons.mp hs with rfl | zs
    · rcases List.mem_cons.mp ht with rfl | zt
      · exact absurd rfl e
      · exact (h.hd t zt).2
    · rcases List.mem_cons.mp ht with rfl | zt
      · exact (h.hd s zs).1
      · exact RR.ne h.tl zs zt e
theorem RR.self {k : List Nat} (h : RR k) {s : Nat} (hs : s ∈ k) : s.testBit s.log2 = true := Nat.testBit_log2 (h.nz s hs)
theorem RR.nd {k : List Nat} (h : RR k) : k.Nodup := by
  have : ∀ {k : List Nat}, RR k → k.Nodup := fun {k} h => by
    induction k with
    | nil => exact List.nodup_nil
    | cons s k ih =>
      refine List.nodup_cons.mpr ⟨fun z => ?_, ih h.tl⟩
      have := (h.hd s z).1
      rw [h.self List.mem_cons_self] at this; cases this
  exact this h
theorem red1_keep : ∀ {k : List Nat} {x i : Nat}, RR k → (∀ s ∈ k, x.testBit s.log2 = true → s.testBit i = false) → (red1 k x).testBit i = x.testBit i
  | [], _, _, _, _ => rfl
  | s :: k, x, i, h, hx => by
    show (red1 k (rd1 x s)).testBit i = _
    have b1 : (rd1 x s).testBit i = x.testBit i := by
      rw [rd1_bit]
      cases q : x.testBit s.log2 with
      | false => simp
      | true => rw [hx s List.mem_cons_self q]; simp
    rw [red1_keep h.tl fun t ht hb => ?_, b1]
    refine hx t (List.mem_cons_of_mem _ ht) ?_
    rw [rd1_bit, (h.hd t ht).2] at hb
    simpa using hb
theorem red1_lead : ∀ {k : List Nat} {x : Nat}, RR k → ∀ s ∈ k, (red1 k x).testBit s.log2 = false
  | [], _, _, _, hs => by cases hs
  | a :: k, x, h, s, hs => by
    show (red1 k (rd1 x a)).testBit s.log2 = false
    rcases List.mem_cons.mp hs with rfl | z
    · rw [red1_keep h.tl fun t ht _ => (h.hd t ht).1, rd1_bit, h.self List.mem_cons_self]
      cases x.testBit s.log2 <;> rfl
    · exact red1_lead h.tl s z
inductive Spn (l : List Nat) : Nat → Prop
  | zero : Spn l 0
  | add {x y : Nat} : x ∈ l → Spn l y → Spn l (x ^^^ y)
theorem Spn.mem {l : List Nat} {x : Nat} (h : x ∈ l) : Spn l x := by
  have := Spn.add h Spn.zero
  rwa [Nat.xor_zero] at this
theorem Spn.xor {l : List Nat} {x y : Nat} (h : Spn l x) (h' : Spn l y) : Spn l (x ^^^ y) := by
  induction h with
  | zero => rwa [Nat.zero_xor]
  | add m _ ih => rw [Nat.xor_assoc]; exact .add m ih
theorem Spn.mono {l l' : List Nat} (h : ∀ x ∈ l, Spn l' x) {y : Nat} (hy : Spn l y) : Spn l' y := by
  induction hy with
  | zero => exact .zero
  | add m _ ih => exact (h _ m).xor ih
theorem Spn.lt {l : List Nat} {m : Nat} (h : ∀ x ∈ l, x < 2 ^ m) {y : Nat} (hy : Spn l y) : y < 2 ^ m := by
  induction hy with
  | zero => exact Nat.pow_pos (by decide)
  | add hm _ ih => exact Nat.xor_lt_two_pow (h _ hm) ih
def redS (k : List Nat) (x : Nat) : List Nat := if red1 k x = 0 then k else k.map (fun s => rd1 s (red1 k x)) ++ [red1 k x]
def red (xs : List Nat) : List Nat := xs.foldl redS []
theorem red_snoc (xs : List Nat) (x : Nat) : red (xs ++ [x]) = redS (red xs) x := by unfold red; rw [List.foldl_append]; rfl
theorem rd1_log2 {s f : Nat} (hs : s ≠ 0) (hf : f ≠ 0) (h : f.testBit s.log2 = false) : (rd1 s f).log2 = s.log2 ∧ rd1 s f ≠ 0 := by
  have ss := Nat.testBit_log2 hs
  have bit : (rd1 s f).testBit s.log2 = true := by rw [rd1_bit, ss, h]; simp
  refine ⟨log2_of bit ?_, fun z => by rw [z] at bit; simp at bit⟩
  unfold rd1
  split
  · rename_i q
    have le := tb_le q
    exact Nat.xor_lt_two_pow Nat.lt_log2_self (Nat.lt_of_lt_of_le Nat.lt_log2_self (Nat.pow_le_pow_right (by decide) (by omega)))
  · exact Nat.lt_log2_self
theorem RR.step {k : List Nat} (h : RR k) (x : Nat) : RR (redS k x) := by
  unfold redS
  by_cases z : red1 k x = 0
  · rw [if_pos z]; exact h
  rw [if_neg z]
  have ld := fun s hs => red1_lead (x := x) h s hs
  generalize red1 k x = f at z ld
  have l2 : ∀ s ∈ k, (rd1 s f).log2 = s.log2 ∧ rd1 s f ≠ 0 := fun s hs => rd1_log2 (h.nz s hs) z (ld s hs)
  have ff := Nat.testBit_log2 z
  refine ⟨fun s hs => ?_, ?_⟩
  · rcases List.mem_append.mp hs with w | w
    · obtain ⟨u, hu, rfl⟩ := List.mem_map.mp w
      exact (l2 u hu).2
    · rw [List.mem_singleton] at w; rw [w]; exact z
  · rw [List.pairwise_append]
    refine ⟨?_, List.pairwise_singleton _ _, fun a ha b hb => ?_⟩
    · rw [List.pairwise_map]
      refine List.Pairwise.imp_of_mem (fun {a b} ha hb r => ?_) h.ap
      rw [(l2 a ha).1, (l2 b hb).1, rd1_bit, rd1_bit, r.1, r.2, ld a ha, ld b hb]
      simp
    · rw [List.mem_singleton] at hb
      obtain ⟨u, hu, rfl⟩ := List.mem_map.mp ha
      subst hb
      refine ⟨by rw [(l2 u hu).1]; exact ld u hu, ?_⟩
      rw [rd1_bit, ff]
      cases u.testBit b.log2 <;> rfl
theorem snocN {P : List Nat → Prop} (h0 : P []) (hs : ∀ l t, P l → P (l ++ [t])) (l : List Nat) : P l := by
  have : ∀ r : List Nat, P r.reverse := fun r => by
    induction r with
    | nil => exact h0
    | cons a r ih => rw [List.reverse_cons]; exact hs _ _ ih
  have q := this l.reverse
  rwa [List.reverse_reverse] at q
theorem red_rr (xs : List Nat) : RR (red xs) := snocN (P := fun xs => RR (red xs)) RR.nil (fun l t ih => by rw [red_snoc]; exact ih.step t) xs
end My
namespace My
def isLd (S : List Nat) (p : Nat) : Prop := ∃ s ∈ S, s.log2 = p
instance (S : List Nat) : DecidablePred (isLd S) := fun p => inferInstanceAs (Decidable (∃ s ∈ S, s.log2 = p))
end My
namespace My
open PySem
theorem add_xor : ∀ (n a b : Nat), a < n → a + b = (a ^^^ b) + 2 * (a &&& b)
  | 0, _, _, h => absurd h (Nat.not_lt_zero _)
  | n + 1, a, b, h => by
    by_cases a0 : a = 0
    · subst a0; simp
    have ih := add_xor n (a / 2) (b / 2) (by omega)
    have d1 : (a ^^^ b) / 2 = a / 2 ^^^ b / 2 := Nat.xor_div_two
    have d2 : (a &&& b) / 2 = a / 2 &&& b / 2 := Nat.and_div_two
    have b1 : (a ^^^ b).testBit 0 = (a.testBit 0 ^^ b.testBit 0) := Nat.testBit_xor ..
    have b2 : (a &&& b).testBit 0 = (a.testBit 0 && b.testBit 0) := Nat.testBit_and ..
    rw [Nat.testBit_zero, Nat.testBit_zero, Nat.testBit_zero] at b1 b2
    rw [← d1, ← d2] at ih
    generalize a ^^^ b = X at b1 ih ⊢
    generalize a &&& b = Y at b2 ih ⊢
    rcases Nat.mod_two_eq_zero_or_one a with p | p <;> rcases Nat.mod_two_eq_zero_or_one b with q | q <;> rw [p, q] at b1 b2 <;> simp at b1 b2 <;> omega
theorem band_nat (a b : Nat) : Builtin.bitAnd (a : Int) (b : Int) = ((a &&& b : Nat) : Int) := by
  unfold Builtin.bitAnd
  rw [decide_eq_true (Int.natCast_nonneg a), decide_eq_true (Int.natCast_nonneg b)]
  simp
theorem bxor_nat (a b : Nat) : Builtin.bitXor (a : Int) (b : Int) = ((a ^^^ b : Nat) : Int) := by
  have e := add_xor (a + 1) a b (Nat.lt_succ_self a)
  have h : Builtin.bitXor (a : Int) (b : Int) = (a : Int) + b - 2 * Builtin.bitAnd a b := by
    have x : ∀ x y : Int, Builtin.bitNot (Builtin.bitNot x) = x := fun x y => by unfold Builtin.bitNot; omega
    unfold Builtin.bitXor Builtin.bitOr
    have na : ¬ (0 : Int) ≤ Builtin.bitNot (a : Int) := by unfold Builtin.bitNot; omega
    have nb : ¬ (0 : Int) ≤ Builtin.bitNot (b : Int) := by unfold Builtin.bitNot; omega
    have o : Builtin.bitAnd (Builtin.bitNot (a : Int)) (Builtin.bitNot (b : Int)) = Builtin.bitNot ((a ||| b : Nat) : Int) := by
      unfold Builtin.bitAnd
      rw [decide_eq_false na, decide_eq_false nb]
      show Builtin.bitNot _ = _
      rw [x a 0, x b 0]; simp
    rw [o, x _ 0, band_nat]
    have e2 : (a ||| b) + (a &&& b) = a + b := by
      have := add_or (a + 1) a b (Nat.lt_succ_self a)
      omega
    omega
  rw [h, band_nat]
  omega
where
  add_or : ∀ (n a b : Nat), a < n → (a ||| b) + (a &&& b) = a + b
  | 0, _, _, h => absurd h (Nat.not_lt_zero _)
  | n + 1, a, b, h => by
    by_cases a0 : a = 0
    · subst a0; simp
    have ih := add_or n (a / 2) (b / 2) (by omega)
    have d1 : (a ||| b) / 2 = a / 2 ||| b / 2 := Nat.or_div_two
    have d2 : (a &&& b) / 2 = a / 2 &&& b / 2 := Nat.and_div_two
    have b1 : (a ||| b).testBit 0 = (a.testBit 0 || b.testBit 0) := Nat.testBit_or ..
    have b2 : (a &&& b).testBit 0 = (a.testBit 0 && b.testBit 0) := Nat.testBit_and ..
    rw [Nat.testBit_zero, Nat.testBit_zero, Nat.testBit_zero] at b1 b2
    rw [← d1, ← d2] at ih
    generalize a ||| b = X at b1 ih ⊢
    generalize a &&& b = Y at b2 ih ⊢
    rcases Nat.mod_two_eq_zero_or_one a with p | p <;> rcases Nat.mod_two_eq_zero_or_one b with q | q <;> rw [p, q] at b1 b2 <;> simp at b1 b2 <;> omega
noncomputable def lo (f : Nat) : Nat := Classical.epsilon fun i => f.testBit i = true ∧ ∀ j, j < i → f.testBit j = false
def rv (m x : Nat) : Nat := ((((List.range m).filter fun i => x.testBit i).map fun i => m - 1 - i).map fun l => 2 ^ l).sum
end My
namespace My
open PySem L2
abbrev iV (n : Nat) : V := .int (n : Int)
def LsN (H : Hp) (a : Addr) (ms : List Nat) : Prop := H a = some (.lst (ms.map iV))
theorem boot_min' : bootBuiltins "min" = some (.builtin "min") := by decide +kernel
theorem boot_sum' : bootBuiltins "sum" = some (.builtin "sum") := by decide +kernel
theorem str_get {as : List Str} {i : Nat} {x : V} (e : (as.map V.str)[i]? = some x) : ∃ a, x = .str a ∧ as[i]? = some a := by
  rw [List.getElem?_map] at e
  cases ha : as[i]? with
  | none => rw [ha] at e; cases e
  | some a => rw [ha] at e; exact ⟨a, (Option.some.inj e).symm, rfl⟩
theorem ref_get {as : List Addr} {i : Nat} {x : V} (e : (as.map V.ref)[i]? = some x) : ∃ a, x = .ref a ∧ as[i]? = some a := by
  rw [List.getElem?_map] at e
  cases ha : as[i]? with
  | none => rw [ha] at e; cases e
  | some a => rw [ha] at e; exact ⟨a, (Option.some.inj e).symm, rfl⟩
theorem iv_get {ms : List Nat} {i : Nat} {x : V} (e : (ms.map iV)[i]? = some x) : ∃ n, x = iV n ∧ ms[i]? = some n := by
  rw [List.getElem?_map] at e
  cases ha : ms[i]? with
  | none => rw [ha] at e; cases e
  | some a => rw [ha] at e; exact ⟨a, (Option.some.inj e).symm, rfl⟩
theorem iv_ints (ms : List Nat) : ms.map iV = (ms.map fun n : Nat => (n : Int)).map V.int := by rw [List.map_map]; rfl
def maskF (names row : List Str) : Nat := names.foldl (fun m n => 2 * m + (if n ∈ row then 1 else 0)) 0
theorem maskF_snoc (names row : List Str) (n : Str) : maskF (names ++ [n]) row = 2 * maskF names row + (if n ∈ row then 1 else 0) := by unfold maskF; rw [List.foldl_append]; rfl
def spMask : Sp := fun vs H Q _ => ∃ (pn pr : Addr) (names row : List Str), vs = [.ref pn, .ref pr] ∧ LsS H pn names ∧ LsS H pr row ∧ Q (iV (maskF names row)) H
def rowM (names : List Str) (x : Nat) : List Str := (List.range names.length).filterMap fun i => if x.testBit (names.length - 1 - i) = true then names[i]? else none
def spRowOf : Sp := fun vs H Q _ => ∃ (pn : Addr) (names : List Str) (x : Nat), vs = [.ref pn, iV x] ∧ LsS H pn names ∧ names.length ≤ 12 ∧ ∀ r H', Ext H H' → H r = none → LsS H' r (rowM names x) → Q (.ref r) H'
theorem shr_one (x k : Nat) : Builtin.bitAnd ((x : Int) / 2 ^ k) 1 = if x.testBit k = true then 1 else 0 := by
  have e : (x : Int) / 2 ^ k = ((x / 2 ^ k : Nat) : Int) := by rw [Int.natCast_ediv, Int.natCast_pow]; rfl
  have e1 : (1 : Int) = ((1 : Nat) : Int) := rfl
  rw [e]
  show Builtin.bitAnd _ ((1 : Nat) : Int) = _
  rw [band_nat, Nat.and_one_is_mod, Nat.testBit_eq_decide_div_mod_eq]
  rcases Nat.mod_two_eq_zero_or_one (x / 2 ^ k) with h | h <;> rw [h] <;> rfl
def spLess : Sp := fun vs H Q _ => ∃ (x : Nat) (p : Addr) (k : List Nat), vs = [iV x, .ref p] ∧ LsN H p k ∧ (∀ s ∈ k, s ≠ 0) ∧ Q (iV (red1 k x)) H
theorem min_int (x : Nat) {s : Nat} (hs : s ≠ 0) : (if Builtin.bitXor (x : Int) (s : Int) < (x : Int) then Builtin.bitXor (x : Int) (s : Int) else (x : Int)) = ((rd1 x s : Nat) : Int) := by
  rw [bxor_nat, ← min_rd1 x hs]
  by_cases h : x ^^^ s < x
  · rw [if_pos h, if_pos (by omega)]
  · rw [if_neg h, if_neg (by omega)]
def spRedu : Sp := fun vs H Q _ => ∃ (p : Addr) (ms : List Nat), vs = [.ref p] ∧ LsN H p ms ∧ ms.length ≤ 24 ∧ ∀ (r : Addr) (M : List Nat) (H' : Hp), Ext H H' → H r = none → LsN H' r M → M.Perm (red ms) → M.Pairwise (fun a b => b ≤ a) → Q (.ref r) H'
theorem redS_len (k : List Nat) (x : Nat) : (redS k x).length ≤ k.length + 1 := by
  unfold redS
  split
  · omega
  · rw [List.length_append, List.length_map]; exact Nat.le_refl _
theorem red_le (xs : List Nat) : (red xs).length ≤ xs.length := by
  refine snocN (P := fun xs => (red xs).length ≤ xs.length) (Nat.le_refl _) (fun l t ih => ?_) xs
  rw [red_snoc, List.length_append]
  have := redS_len (red l) t
  show _ ≤ l.length + 1
  omega
section
variable {P : Program} {w : World} {K : PySem.W.Frag} {mg : Str → Option Value} {base : Heap} {f f1 f2 : Addr} {fd fd1 fd2 : FuncData}
abbrev maN : List Str := ["names", "row", "mask", "name"]
theorem scMask : FnScope maN ["names", "row"] (defScope sMask) := ⟨rfl, rfl, rfl, by decide +kernel, rfl, by decide +kernel, by decide +kernel⟩
set_option maxHeartbeats 4000000 in
theorem ok_mask (F : Fun K "mask_of" "mask_of" sMask f fd) : FnOk P w K mg base CX0 1 f fd ["names", "row"] spMask := by
  refine F.ok scMask (fun vs H Q E h => ?_) (fun cdv A outer s H vs Q E hr h => ?_)
  · obtain ⟨pn, pr, names, row, rfl, _⟩ := h
    rfl
  obtain ⟨pn, pr, names, row, rfl, hn, hw, q⟩ := h
  refine ⟨_, pss_cons (ps_set (i := 2) scMask.nd rfl (Or.inl rfl) pe_int)
    (pss_cons (ps_for PassesOwn.never rfl (pi_list (pv 0)) (pg_name (i := 3) scMask.nd rfl (Or.inl rfl))
      (pss_one (ps_set (i := 2) scMask.nd rfl (Or.inl rfl) (pe_op op_add (pe_op op_mul pe_int (pv 2)) (pe_ifExp (pt_cmpR op_in_seq (pv 3) (pv 1) (by with_unfolding_all rfl)) pe_int pe_int)))))
    (pss_one (ps_ret (pv 2)))), ?_⟩
  try dsimp only [Cx.wish, cxOf]
  refine ⟨_, rfl, pn, rfl, ⟨_, SqL.of hn⟩, ?_⟩
  refine for_list (xs := names.map V.str) (fun i σ H' => H' = H ∧ ∃ x3 : Option V, σ = [some (.ref pn), some (.ref pr), some (iV (maskF (names.take i) row)), x3]) ⟨rfl, none, rfl⟩ (fun i σ H' _ h => by rw [h.1]; exact SqL.of hn) ?_ ?_
  · rintro i x σ H' hx ⟨rfl, x3, rfl⟩
    obtain ⟨y, rfl, hy⟩ := str_get hx
    refine ⟨_, rfl, _, _, rfl, rfl, .inl ⟨by decide, by decide⟩, _, rfl, _, rfl, pr, _, rfl, .inl (SqL.of hw), rfl, flat_strs _, _, rfl, ?_⟩
    rw [if_neg (by decide), inV_str]
    refine ite2 (fun c => ?_) (fun c => ?_)
    · have c' : y ∈ row := by simpa using c
      refine ⟨_, _, rfl, rfl, rfl, some (.str y), ?_⟩
      rw [show iV (maskF (names.take (i + 1)) row) = V.int (2 * ((maskF (names.take i) row : Nat) : Int) + 1) by rw [take_snoc hy, maskF_snoc, if_pos c']; rfl]
      rfl
    · have c' : ¬ y ∈ row := by simpa using c
      refine ⟨_, _, rfl, rfl, rfl, some (.str y), ?_⟩
      rw [show iV (maskF (names.take (i + 1)) row) = V.int (2 * ((maskF (names.take i) row : Nat) : Int) + 0) by rw [take_snoc hy, maskF_snoc, if_neg c']; rfl]
      rfl
  · rintro σ H' ⟨rfl, x3, rfl⟩
    rw [List.length_map, List.take_of_length_le (Nat.le_refl _)]
    exact ⟨_, rfl, q⟩
theorem scRowOf : FnScope ["names", "mask", "last"] ["names", "mask"] (defScope sRowOf) := ⟨rfl, rfl, rfl, by decide +kernel, rfl, by decide +kernel, by decide +kernel⟩
abbrev roN : List Str := ["at", "name", "mask", "last"]
set_option maxHeartbeats 4000000 in
theorem ok_rowOf (F : Fun K "row_of" "row_of" sRowOf f fd) (ml : mg "len" = none) (me : mg "enumerate" = none) : FnOk P w K mg base CX0 1 f fd ["names", "mask"] spRowOf := by
  refine F.ok scRowOf (fun vs H Q E h => ?_) (fun cdv A outer s H vs Q E hr h => ?_)
  · obtain ⟨pn, names, x, rfl, _⟩ := h
    rfl
  obtain ⟨pn, names, x, rfl, hn, ln, q⟩ := h
  refine ⟨_, pss_cons (ps_set (i := 2) scRowOf.nd rfl (Or.inr rfl) (pe_op op_sub (pe_callB call_len_seq rfl ml PySem.boot_len (pa_cons (pv 0) pa_nil)) pe_int))
    (pss_one (ps_ret (pe_lc (N := ["names", "mask", "last"]) (sc := defScope sRowOf) (N' := roN) (sub := [none, none, some 1, some 2]) rfl rfl (CmpOk.of (by decide +kernel)) rfl (pi_enum rfl me (pa_cons (pv 0) pa_nil))
      (fun C s H fp => ⟨(show PG _ _ (gTup K 2 _) from pg_tup rfl (pgs_cons (pg_name (i := 0) (by show roN.Nodup; decide) rfl (Or.inl rfl)) (pgs_cons (pg_name (i := 1) (by show roN.Nodup; decide) rfl (Or.inl rfl)) pgs_nil))),
        pts_one (pt_cmpR op_eq (pe_op op_and (pe_op op_shr (pv 2) (pe_op op_sub (pv 3) (pv 0))) pe_int) pe_int (nomark _)), pv 1⟩)))), ?_⟩
  try dsimp only [Cx.wish, cxOf]
  refine ⟨_, rfl, pn, _, rfl, .inl (SqL.of hn), _, _, rfl, rfl, ?_⟩
  refine ⟨_, rfl, pn, _, rfl, SqL.of hn, ?_⟩
  rw [List.length_map]
  refine turns_tup (fun i ys H' => Ext H H' ∧ ys = ((List.range i).filterMap fun i => if x.testBit (names.length - 1 - i) = true then names[i]? else none).map V.str) ⟨Ext.refl _, rfl⟩ (fun i ys H' _ p => SqL.of (p.1 _ _ hn)) ?_ ?_
  · rintro i ys H' T hi ⟨e, rfl⟩ hT
    have gd : (names.map V.str).getD i .non = .str names[i] := by rw [List.getD_eq_getElem?_getD, List.getElem?_map, List.getElem?_eq_getElem hi]; rfl
    have e2 := e.trans (Ext.new hT (.tup [V.int (i : Nat), (names.map V.str).getD i .non]))
    refine ⟨T, _, rfl, SqT.of upd_same, rfl, _, _, rfl, _, _, rfl, rfl, ?_⟩
    refine ⟨Sle.set _ (Sle.set _ (Sle.refl _) (fun u z => by cases z)) (fun u z => by cases z), ?_⟩
    have k : (((names.length : Nat) : Int) - 1 - (i : Nat)) = ((names.length - 1 - i : Nat) : Int) := by omega
    refine ⟨_, rfl, _, rfl, _, rfl, _, _, rfl, rfl, _, _, rfl, rfl, (by show (0 : Int) ≤ _; omega), _, _, rfl, rfl, rfl, _, rfl, ?_⟩
    have fm : ((List.range (i + 1)).filterMap fun i => if x.testBit (names.length - 1 - i) = true then names[i]? else none) = ((List.range i).filterMap fun i => if x.testBit (names.length - 1 - i) = true then names[i]? else none) ++ (if x.testBit (names.length - 1 - i) = true then [names[i]] else []) := by
      rw [List.range_succ, List.filterMap_append]
      congr 1
      by_cases b : x.testBit (names.length - 1 - i) = true
      · simp [b, List.getElem?_eq_getElem hi]
      · simp [b]
    have sz := List.length_filterMap_le (fun i => if x.testBit (names.length - 1 - i) = true then names[i]? else none) (List.range i)
    rw [List.length_range] at sz
    have key : (decide (V.int (Builtin.bitAnd ((x : Int) / 2 ^ (((names.length : Nat) : Int) - 1 - (i : Nat)).toNat) 1) = V.int 1) = true) ↔ x.testBit (names.length - 1 - i) = true := by
      rw [decide_eq_true_iff, V.int.injEq, k, Int.toNat_natCast, shr_one]
      by_cases b : x.testBit (names.length - 1 - i) = true
      · simp [b]
      · simp [b]
    refine ite2 (fun c => ?_) (fun c => ?_)
    · have b := key.mp c
      refine ⟨_, rfl, by rw [List.length_map]; exact small1000 (by omega), nxt hi ⟨e2, ?_⟩⟩
      rw [fm, if_pos b, List.map_append, gd]; rfl
    · have b : ¬ x.testBit (names.length - 1 - i) = true := fun z => c (key.mpr z)
      refine nxt hi ⟨e2, ?_⟩
      rw [fm, if_neg b, List.append_nil]
  · rintro ys H' ⟨e, rfl⟩ r hr'
    exact q r _ (e.trans (Ext.new hr' _)) (e.none hr') upd_same
theorem scLess : FnScope ["mask", "kept", "step"] ["mask", "kept"] (defScope sLess) := ⟨rfl, rfl, rfl, by decide +kernel, rfl, by decide +kernel, by decide +kernel⟩
set_option maxHeartbeats 4000000 in
theorem ok_less (F : Fun K "lessened" "lessened" sLess f fd) (mmi : mg "min" = none) : FnOk P w K mg base CX0 1 f fd ["mask", "kept"] spLess := by
  refine F.ok scLess (fun vs H Q E h => ?_) (fun cdv A outer s H vs Q E hr h => ?_)
  · obtain ⟨x, p, k, rfl, _⟩ := h
    rfl
  obtain ⟨x, p, k, rfl, hk, nz, q⟩ := h
  refine ⟨_, pss_cons (ps_for PassesOwn.never rfl (pi_list (pv 1)) (pg_name (i := 2) scLess.nd rfl (Or.inl rfl))
      (pss_one (ps_set (i := 0) scLess.nd rfl (Or.inl rfl) (pe_callB (call_min2 rfl) rfl mmi boot_min' (pa_cons (pv 0) (pa_cons (pe_op op_xor (pv 0) (pv 2)) pa_nil))))))
    (pss_one (ps_ret (pv 0))), ?_⟩
  try dsimp only [Cx.wish, cxOf]
  refine ⟨_, rfl, p, rfl, ⟨_, SqL.of hk⟩, ?_⟩
  refine for_list (xs := k.map iV) (fun i σ H' => H' = H ∧ ∃ x2 : Option V, σ = [some (iV (red1 (k.take i) x)), some (.ref p), x2]) ⟨rfl, none, rfl⟩ (fun i σ H' _ h => by rw [h.1]; exact SqL.of hk) ?_ ?_
  · rintro i v σ H' hx ⟨rfl, x2, rfl⟩
    obtain ⟨s, rfl, hs⟩ := iv_get hx
    refine ⟨_, rfl, _, rfl, _, rfl, _, _, rfl, rfl, _, _, rfl, rfl, some (iV s), ?_⟩
    rw [min_int _ (nz s (List.mem_of_getElem? hs)), show red1 (k.take (i + 1)) x = rd1 (red1 (k.take i) x) s by rw [take_snoc hs]; unfold red1; rw [List.foldl_append]; rfl]
    rfl
  · rintro σ H' ⟨rfl, x2, rfl⟩
    rw [List.length_map, List.take_of_length_le (Nat.le_refl _)]
    exact ⟨_, rfl, q⟩
theorem scRedu : FnScope ["masks", "kept", "mask", "fresh"] ["masks"] (defScope sRedu) := ⟨rfl, rfl, rfl, by decide +kernel, rfl, by decide +kernel, by decide +kernel⟩
set_option maxHeartbeats 4000000 in
theorem ok_redu (F : Fun K "reduced" "reduced" sRedu f fd) (G : FnOk P w K mg base CX0 1 f1 fd1 ["mask", "kept"] spLess) (bG : Binds K fd1 ["mask", "kept"] []) (kG : PySem.W.keepIn K (.ref f1) = true) (mG : mg "lessened" = some (.ref f1)) (mmi : mg "min" = none) (mso : mg "sorted" = none) : FnOk P w K mg base CX0 2 f fd ["masks"] spRedu := by
  refine F.ok scRedu (fun vs H Q E h => ?_) (fun cdv A outer s H vs Q E hr h => ?_)
  · obtain ⟨p, ms, rfl, _⟩ := h
    rfl
  obtain ⟨p, ms, rfl, hp, lm, q⟩ := h
  refine ⟨_, pss_cons (ps_set (i := 1) scRedu.nd rfl (Or.inl rfl) (pe_lst pa_nil))
    (pss_cons (ps_for PassesOwn.never rfl (pi_list (pv 0)) (pg_name (i := 2) scRedu.nd rfl (Or.inl rfl))
      (pss_cons (ps_set (i := 3) scRedu.nd rfl (Or.inr rfl) (pe_call G hr rfl mG kG bG .nil pass0 (pa_cons (pv 2) (pa_cons (pv 1) pa_nil))))
      (pss_one (ps_if (pt_cmpR op_ne (pv 3) pe_int (nomark _))
        (pss_one (ps_set (i := 1) scRedu.nd rfl (Or.inl rfl) (pe_op op_cat (pe_lc (N := ["masks", "kept", "mask", "fresh"]) (sc := defScope sRedu) (N' := ["step", "fresh"]) (sub := [none, some 3]) rfl rfl (CmpOk.of (by decide +kernel)) rfl (pi_list (pv 1))
          (fun C s H fp => ⟨pg_name (i := 0) (by show (["step", "fresh"] : List Str).Nodup; decide) rfl (Or.inl rfl), pts_nil, pe_callB (call_min2 rfl) rfl mmi boot_min' (pa_cons (pv 0) (pa_cons (pe_op op_xor (pv 0) (pv 1)) pa_nil))⟩)) (pe_lst (pa_cons (pv 3) pa_nil)))))
        pss_nil))))
    (pss_one (ps_ret (pe_sortRev rfl mso (pa_cons (pv 1) pa_nil))))), ?_⟩
  try dsimp only [Cx.wish, cxOf]
  refine ⟨Nat.zero_le _, fun ke ke0 => ?_⟩
  have X0 := Ext.new ke0 (.lst [])
  refine ⟨_, rfl, p, rfl, ⟨_, SqL.of (X0 _ _ hp)⟩, ?_⟩
  refine for_list (xs := ms.map iV) (fun i σ H' => ∃ (ke : Addr) (x2 x3 : Option V), σ = [some (.ref p), some (.ref ke), x2, x3] ∧ Ext H H' ∧ LsN H' ke (red (ms.take i))) ⟨ke, none, none, rfl, X0, upd_same⟩ (fun i σ H' _ h => by obtain ⟨_, _, _, _, e, _⟩ := h; exact SqL.of (e _ _ hp)) ?_ ?_
  · rintro i v σ H' hx ⟨ke, x2, x3, rfl, e, hk⟩
    obtain ⟨m, rfl, hm⟩ := iv_get hx
    have hi : i < ms.length := at_lt hm
    have rr := red_rr (ms.take i)
    have lr := red_le (ms.take i)
    rw [List.length_take] at lr
    refine ⟨_, rfl, _, rfl, m, ke, _, rfl, hk, rr.nz, ?_⟩
    have sn : red (ms.take (i + 1)) = redS (red (ms.take i)) m := by rw [take_snoc hm, red_snoc]
    refine ⟨_, rfl, rfl, _, rfl, ?_⟩
    refine ite2 (fun c => ?_) (fun c => ?_)
    · have c' : red1 (red (ms.take i)) m ≠ 0 := fun z => by rw [z] at c; simp at c
      refine ⟨_, rfl, ke, rfl, ⟨_, SqL.of hk⟩, ?_⟩
      refine turns_list (xs := (red (ms.take i)).map iV) (fun j ys H2 => H2 = H' ∧ ys = (((red (ms.take i)).take j).map fun s => rd1 s (red1 (red (ms.take i)) m)).map iV) ⟨rfl, rfl⟩ (fun j ys H2 _ h => by rw [h.1]; exact SqL.of hk) ?_ ?_
      · rintro j x ys H2 hx2 ⟨rfl, rfl⟩
        obtain ⟨s, rfl, hs⟩ := iv_get hx2
        have hj := at_lt hs
        refine ⟨Sle.set _ (Sle.refl _) (fun u z => by cases z), iteT (B := False) ⟨_, rfl, _, rfl, _, rfl, _, _, rfl, rfl, _, _, rfl, ?_, nxt (at_lt hx2) ⟨rfl, ?_⟩⟩⟩
        · rw [List.length_map, List.length_map, List.length_take]; exact small1000 (by omega)
        · rw [min_int _ c', take_snoc hs, List.map_append, List.map_append]; rfl
      · rintro ys H2 ⟨rfl, rfl⟩ l hl
        rw [List.length_map, List.take_of_length_le (Nat.le_refl _)]
        have n1 := Ext.new hl (.lst (((red (ms.take i)).map fun s => rd1 s (red1 (red (ms.take i)) m)).map iV))
        refine ⟨_, rfl, (by show 1 ≤ sizeLine; decide), fun l2 hl2 => ?_⟩
        have n2 := Ext.new hl2 (.lst [iV (red1 (red (ms.take i)) m)])
        refine ⟨l, l2, _, _, rfl, rfl, n2 _ _ upd_same, upd_same, ?_, fun l3 hl3 => ?_⟩
        · rw [List.length_map, List.length_map]
          show _ + 1 ≤ sizeLine
          exact Nat.le_of_lt (small1000 (by omega))
        · refine ⟨l3, _, _, rfl, ((e.trans n1).trans n2).trans (Ext.new hl3 _), ?_⟩
          rw [sn]
          unfold redS LsN
          rw [if_neg c', upd_same, List.map_append]
          rfl
    · have c' : red1 (red (ms.take i)) m = 0 := by
        have : (red1 (red (ms.take i)) m : Int) = 0 := by simpa using c
        omega
      refine ⟨ke, _, _, rfl, e, ?_⟩
      rw [sn]
      unfold redS
      rw [if_pos c']
      exact hk
  · rintro σ H' ⟨ke, x2, x3, rfl, e, hk⟩
    rw [List.length_map, List.take_of_length_le (Nat.le_refl _)] at hk
    have lr := red_le ms
    refine ⟨_, rfl, ke, (red ms).map (fun n : Nat => (n : Int)), rfl, by rw [← iv_ints]; exact SqL.of hk, by rw [List.length_map]; omega, fun r ns hr' pm od => ?_⟩
    have od' : ns.Pairwise fun a b => a ≥ b := od
    obtain ⟨M, rfl⟩ : ∃ M : List Nat, ns = M.map (fun n : Nat => (n : Int)) := by
      refine ⟨ns.map Int.toNat, ?_⟩
      rw [List.map_map]
      refine (List.map_id _).symm.trans (List.map_congr_left fun a ha => ?_)
      obtain ⟨n, _, rfl⟩ := List.mem_map.mp (pm.mem_iff.mp ha)
      simp
    have pm' : M.Perm (red ms) := by
      have := pm.map Int.toNat
      rw [List.map_map, List.map_map] at this
      have idn : (Int.toNat ∘ fun n : Nat => (n : Int)) = id := by funext n; simp
      rw [idn, List.map_id, List.map_id] at this
      exact this
    refine q r M _ (e.trans (Ext.new hr' _)) (e.none hr') (by unfold LsN; rw [upd_same, iv_ints]) pm' ?_
    rw [List.pairwise_map] at od'
    exact List.Pairwise.imp (fun {a b} h => by omega) od'
end
end My
namespace My
open PySem L2
theorem RR.perm {a b : List Nat} (h : RR a) (p : b.Perm a) : RR b := ⟨fun s hs => h.nz s (p.mem_iff.mp hs), (p.pairwise_iff (fun {x y} z => ⟨z.2, z.1⟩)).mpr h.ap⟩
theorem sum_cast : ∀ l : List Nat, (l.map fun n : Nat => (n : Int)).sum = ((l.sum : Nat) : Int)
  | [] => rfl
  | a :: l => by rw [List.map_cons, List.sum_cons, List.sum_cons, sum_cast l]; omega
theorem shl_nat (p : Nat) : (1 : Int) * 2 ^ ((p : Int)).toNat = ((2 ^ p : Nat) : Int) := by
  rw [Int.toNat_natCast, Int.one_mul, Int.natCast_pow]; rfl
def TabIn (H : Hp) (T : Addr) (names : List Str) (rows : List (List Str)) : Prop := ∃ a b, H T = some (.tup [.ref a, .ref b]) ∧ LsS H a names ∧ RowsAt H b rows
def TabF (H0 H : Hp) (T : Addr) (names : List Str) (rows : List (List Str)) : Prop := ∃ a b, H T = some (.tup [.ref a, .ref b]) ∧ LsS H a names ∧ H0 a = none ∧ RowsY H0 H b rows ∧ H0 b = none
theorem TabIn.ext {H H' : Hp} {T : Addr} {names : List Str} {rows : List (List Str)} (h : TabIn H T names rows) (e : Ext H H') : TabIn H' T names rows := by
  obtain ⟨a, b, h1, h2, h3⟩ := h
  exact ⟨a, b, e _ _ h1, e _ _ h2, h3.ext e⟩
theorem TabF.ext {H0 H H' : Hp} {T : Addr} {names : List Str} {rows : List (List Str)} (h : TabF H0 H T names rows) (e : Ext H H') : TabF H0 H' T names rows := by
  obtain ⟨a, b, h1, h2, h3, h4, h5⟩ := h
  exact ⟨a, b, e _ _ h1, e _ _ h2, h3, h4.ext e, h5⟩
theorem TabF.tin {H0 H : Hp} {T : Addr} {names : List Str} {rows : List (List Str)} (h : TabF H0 H T names rows) : TabIn H T names rows := by
  obtain ⟨a, b, h1, h2, h3, h4, h5⟩ := h
  exact ⟨a, b, h1, h2, h4.rows⟩
def spTabF : Sp := fun vs H Q _ => ∃ (pn pm : Addr) (names : List Str) (ms : List Nat), vs = [.ref pn, .ref pm] ∧ LsS H pn names ∧ names.length ≤ 12 ∧ LsN H pm ms ∧ ms.length ≤ 24 ∧ ∀ (T : Addr) (M : List Nat) (H' : Hp), Ext H H' → H T = none → TabF H H' T names (M.map (rowM names)) → M.Perm (red ms) → M.Pairwise (fun a b => b ≤ a) → Q (.ref T) H'
def spStepM : Sp := fun vs H Q _ => ∃ (T : Addr) (names : List Str) (rows : List (List Str)), vs = [.ref T] ∧ TabIn H T names rows ∧ rows.length ≤ 24 ∧ ∀ (r : Addr) (M : List Nat) (H' : Hp), Ext H H' → H r = none → LsN H' r M → M.Perm (red (rows.map (maskF names))) → M.Pairwise (fun a b => b ≤ a) → Q (.ref r) H'
section
variable {P : Program} {w : World} {K : PySem.W.Frag} {mg : Str → Option Value} {base : Heap} {f f1 f2 f3 f4 : Addr} {fd fd1 fd2 fd3 fd4 : FuncData}
theorem scTabF : FnScope ["names", "masks"] ["names", "masks"] (defScope sTabF) := ⟨rfl, rfl, rfl, by decide +kernel, rfl, by decide +kernel, by decide +kernel⟩
set_option maxHeartbeats 4000000 in
theorem ok_tabF (F : Fun K "table_from" "table_from" sTabF f fd) (G1 : FnOk P w K mg base CX0 1 f1 fd1 ["names", "mask"] spRowOf) (bG1 : Binds K fd1 ["names", "mask"] []) (kG1 : PySem.W.keepIn K (.ref f1) = true) (mG1 : mg "row_of" = some (.ref f1))
    (G2 : FnOk P w K mg base CX0 2 f2 fd2 ["masks"] spRedu) (bG2 : Binds K fd2 ["masks"] []) (kG2 : PySem.W.keepIn K (.ref f2) = true) (mG2 : mg "reduced" = some (.ref f2)) (mL : mg "list" = none) : FnOk P w K mg base CX0 3 f fd ["names", "masks"] spTabF := by
  refine F.ok scTabF (fun vs H Q E h => ?_) (fun cdv A outer s H vs Q E hr h => ?_)
  · obtain ⟨pn, pm, names, ms, rfl, _⟩ := h
    rfl
  obtain ⟨pn, pm, names, ms, rfl, hn, ln, hm, lm, q⟩ := h
  have hr1 := hr.mono (j := 1) (by decide)
  refine ⟨_, pss_one (ps_ret (pe_tup (pa_cons (pe_callTy call_list_of rfl mL boot_list' (pa_cons (pv 0) pa_nil)) (pa_cons
    (pe_lc (N := ["names", "masks"]) (sc := defScope sTabF) (N' := ["mask", "names"]) (sub := [none, some 0]) rfl rfl (CmpOk.of (by decide +kernel)) rfl (pi_list (pe_call G2 hr rfl mG2 kG2 bG2 .nil pass0 (pa_cons (pv 1) pa_nil)))
      (fun C s H fp => ⟨pg_name (i := 0) (by show (["mask", "names"] : List Str).Nodup; decide) rfl (Or.inl rfl), pts_nil, pe_call G1 hr1 rfl mG1 kG1 bG1 .nil pass0 (pa_cons (pv 1) (pa_cons (pv 0) pa_nil))⟩)) pa_nil)))), ?_⟩
  try dsimp only [Cx.wish, cxOf]
  refine ⟨_, rfl, pn, _, rfl, .inl (SqL.of hn), fun l1 hl1 => ?_⟩
  have n1 := Ext.new hl1 (.lst (names.map V.str))
  refine ⟨_, rfl, pm, ms, rfl, n1 _ _ hm, lm, fun r M H1 e1 r0 hM pM dM => ?_⟩
  have E1 := n1.trans e1
  have lM : M.length ≤ 24 := by rw [pM.length_eq]; exact Nat.le_trans (red_le ms) lm
  refine ⟨r, rfl, ⟨_, SqL.of hM⟩, ?_⟩
  refine turns_list (xs := M.map iV) (fun j ys H2 => Ext H1 H2 ∧ ∃ as, ys = as.map V.ref ∧ Paired (fun a r => LsS H2 a r ∧ H a = none) as ((M.take j).map (rowM names))) ⟨Ext.refl _, [], rfl, .nil⟩ (fun j ys H2 _ h => SqL.of (h.1 _ _ hM)) ?_ ?_
  · rintro j v ys H2 hx ⟨e2, as, rfl, pr⟩
    obtain ⟨x, rfl, hx'⟩ := iv_get hx
    have hj := at_lt hx'
    have la : as.length = _ := pr.length
    rw [List.length_map, List.length_take] at la
    refine ⟨Sle.set _ (Sle.refl _) (fun u z => by cases z), iteT (B := False) ⟨_, rfl, _, rfl, pn, names, x, rfl, (E1.trans e2) _ _ hn, ln, fun r3 H3 e3 r30 h3 => ⟨?_, nxt (at_lt hx) ⟨e2.trans e3, as ++ [r3], by rw [List.map_append]; rfl, ?_⟩⟩⟩⟩
    · rw [List.length_map]; exact small1000 (by omega)
    · rw [take_snoc hx', List.map_append]
      exact Paired.snoc (Paired.mapP pr fun a t z => ⟨e3 _ _ z.1, z.2⟩) ⟨h3, (E1.trans e2).none r30⟩
  · rintro ys H2 ⟨e2, as, rfl, pr⟩ b hb
    rw [List.length_map, List.take_of_length_le (Nat.le_refl _)] at pr
    have E2 := E1.trans e2
    have Xb := Ext.new hb (.lst (as.map V.ref))
    refine ⟨(by show 2 ≤ sizeLine; decide), fun T hT => ?_⟩
    have XT := Xb.trans (Ext.new hT (.tup [V.ref l1, V.ref b]))
    refine q T M _ (E2.trans XT) ((E2.trans Xb).none hT) ⟨l1, b, upd_same, XT _ _ (e2 _ _ (e1 _ _ upd_same)), hl1, ⟨as, (Ext.new hT _) _ _ upd_same, Paired.mapP pr fun a t z => ⟨XT _ _ z.1, z.2, ne_of_none z.1 hb⟩⟩, E2.none hb⟩ pM dM
theorem scStepM : FnScope ["table", "names", "rows"] ["table"] (defScope sStepM) := ⟨rfl, rfl, rfl, by decide +kernel, rfl, by decide +kernel, by decide +kernel⟩
set_option maxHeartbeats 4000000 in
theorem ok_stepM (F : Fun K "step_masks" "step_masks" sStepM f fd) (G1 : FnOk P w K mg base CX0 1 f1 fd1 ["names", "row"] spMask) (bG1 : Binds K fd1 ["names", "row"] []) (kG1 : PySem.W.keepIn K (.ref f1) = true) (mG1 : mg "mask_of" = some (.ref f1))
    (G2 : FnOk P w K mg base CX0 2 f2 fd2 ["masks"] spRedu) (bG2 : Binds K fd2 ["masks"] []) (kG2 : PySem.W.keepIn K (.ref f2) = true) (mG2 : mg "reduced" = some (.ref f2)) : FnOk P w K mg base CX0 3 f fd ["table"] spStepM := by
  refine F.ok scStepM (fun vs H Q E h => ?_) (fun cdv A outer s H vs Q E hr h => ?_)
  · obtain ⟨T, names, rows, rfl, _⟩ := h
    rfl
  obtain ⟨T, names, rows, rfl, ⟨a, b, hT, ha, ⟨as, hb, pr⟩⟩, lr, q⟩ := h
  have hr1 := hr.mono (j := 1) (by decide)
  refine ⟨_, pss_cons (ps_asg (pv 0) (pg_tup rfl (pgs_cons (pg_name (i := 1) scStepM.nd rfl (Or.inr rfl)) (pgs_cons (pg_name (i := 2) scStepM.nd rfl (Or.inl rfl)) pgs_nil))))
    (pss_one (ps_ret (pe_call G2 hr rfl mG2 kG2 bG2 .nil pass0 (pa_cons (pe_lc (N := ["table", "names", "rows"]) (sc := defScope sStepM) (N' := ["row", "names"]) (sub := [none, some 1]) rfl rfl (CmpOk.of (by decide +kernel)) rfl (pi_list (pv 2))
      (fun C s H fp => ⟨pg_name (i := 0) (by show (["row", "names"] : List Str).Nodup; decide) rfl (Or.inl rfl), pts_nil, pe_call G1 hr1 rfl mG1 kG1 bG1 .nil pass0 (pa_cons (pv 1) (pa_cons (pv 0) pa_nil))⟩)) pa_nil)))), ?_⟩
  try dsimp only [Cx.wish, cxOf]
  have la : as.length = rows.length := pr.length
  refine ⟨_, rfl, T, _, rfl, SqT.of hT, rfl, _, _, rfl, _, _, rfl, rfl, ?_⟩
  refine ⟨_, rfl, b, rfl, ⟨_, SqL.of hb⟩, ?_⟩
  refine turns_list (xs := as.map V.ref) (fun j ys H2 => H2 = H ∧ ys = ((rows.take j).map (maskF names)).map iV) ⟨rfl, rfl⟩ (fun j ys H2 _ h => by rw [h.1]; exact SqL.of hb) ?_ ?_
  · rintro j v ys H2 hx ⟨rfl, rfl⟩
    obtain ⟨c, rfl, hc⟩ := ref_get hx
    obtain ⟨rw1, hrw, hc1⟩ := paired_get pr hc
    have hj := at_lt hrw
    refine ⟨Sle.set _ (Sle.refl _) (fun u z => by cases z), iteT (B := False) ⟨_, rfl, _, rfl, a, c, names, rw1, rfl, ha, hc1, ?_, nxt (at_lt hx) ⟨rfl, ?_⟩⟩⟩
    · rw [List.length_map, List.length_map, List.length_take]; exact small1000 (by omega)
    · rw [take_snoc hrw, List.map_append, List.map_append]; rfl
  · rintro ys H2 ⟨rfl, rfl⟩ l hl
    rw [List.length_map, la, List.take_of_length_le (Nat.le_refl _)]
    have n1 := Ext.new hl (.lst ((rows.map (maskF names)).map iV))
    refine ⟨l, _, rfl, upd_same, by rw [List.length_map]; exact lr, fun r M H1 e1 r0 hM pM dM => ?_⟩
    exact q r M H1 (n1.trans e1) (n1.none r0) hM pM dM
end
end My
namespace My
open PySem L2
def Cs (m : Nat) (S : List Nat) : Prop := (m = 1 ∧ S = []) ∨ (m = 1 ∧ S = [1]) ∨ (m = 2 ∧ S = [3])
def Gs (m : Nat) : List Nat := if m = 1 then [1] else [2, 1]
def spSingle : Sp := fun vs H Q _ => ∃ x : Nat, vs = [iV x] ∧ (x = 1 ∨ x = 2) ∧ Q (.bl true) H
def spSplits : Sp := fun vs H Q _ => ∃ (p : Addr) (S : List Nat) (one rest met : Nat), vs = [.ref p, iV one, iV rest, iV met] ∧ LsN H p S ∧ (met ≠ S.length + 1 ∨ one = 1) ∧ Q (.bl false) H
def spCro : Sp := fun vs H Q _ => ∃ (p : Addr) (e g : Nat), vs = [.ref p, iV e, iV g] ∧ ((e = 1 ∧ g = 1) ∨ (e = 3 ∧ g = 2) ∨ (e = 3 ∧ g = 1)) ∧ Q (.bl true) H
def spMaskI : Sp := fun vs H Q _ => ∃ (pn pr : Addr) (m : Nat), vs = [.ref pn, .ref pr] ∧ (m = 1 ∨ m = 2) ∧ LsN H pn (Gs m) ∧ LsN H pr (Gs m) ∧ Q (iV (2 ^ m - 1)) H
section
variable {P : Program} {w : World} {K : PySem.W.Frag} {mg : Str → Option Value} {base : Heap} {f f1 f2 f3 f4 : Addr} {fd fd1 fd2 fd3 fd4 : FuncData}
theorem scSingle : FnScope ["mask"] ["mask"] (defScope sSingle) := ⟨rfl, rfl, rfl, by decide +kernel, rfl, by decide +kernel, by decide +kernel⟩
theorem ok_single (F : Fun K "is_single" "is_single" sSingle f fd) : FnOk P w K mg base CX0 1 f fd ["mask"] spSingle := by
  refine F.ok scSingle (fun vs H Q E h => ?_) (fun cdv A outer s H vs Q E hr h => ?_)
  · obtain ⟨x, rfl, _⟩ := h
    rfl
  obtain ⟨x, rfl, hx, q⟩ := h
  refine ⟨_, pss_one (ps_ret (pe_cmpR op_eq (pe_op op_and (pv 0) (pe_op op_sub (pv 0) pe_int)) pe_int (nomark _))), ?_⟩
  try dsimp only [Cx.wish, cxOf]
  refine ⟨_, rfl, _, rfl, _, _, rfl, rfl, _, _, rfl, rfl, rfl, ?_⟩
  rcases hx with rfl | rfl
  · have e : decide (V.int (Builtin.bitAnd ((1 : Nat) : Int) (((1 : Nat) : Int) - 1)) = V.int 0) = true := by decide +kernel
    rw [e]; exact q
  · have e : decide (V.int (Builtin.bitAnd ((2 : Nat) : Int) (((2 : Nat) : Int) - 1)) = V.int 0) = true := by decide +kernel
    rw [e]; exact q
theorem scSplits : FnScope ["steps", "one", "rest", "met"] ["steps", "one", "rest", "met"] (defScope sSplits) := ⟨rfl, rfl, rfl, by decide +kernel, rfl, by decide +kernel, by decide +kernel⟩
theorem ok_splits (F : Fun K "splits" "splits" sSplits f fd) (G1 : FnOk P w K mg base CX0 1 f1 fd1 ["mask"] spSingle) (bG1 : Binds K fd1 ["mask"] []) (kG1 : PySem.W.keepIn K (.ref f1) = true) (mG1 : mg "is_single" = some (.ref f1)) (ml : mg "len" = none) : FnOk P w K mg base CX0 2 f fd ["steps", "one", "rest", "met"] spSplits := by
  refine F.ok scSplits (fun vs H Q E h => ?_) (fun cdv A outer s H vs Q E hr h => ?_)
  · obtain ⟨p, S, one, rest, met, rfl, _⟩ := h
    rfl
  obtain ⟨p, S, one, rest, met, rfl, hS, hc, q⟩ := h
  refine ⟨_, pss_one (ps_ret (pe_and (pe_cmpR op_eq (pv 3) (pe_op op_add (pe_callB call_len_seq rfl ml PySem.boot_len (pa_cons (pv 0) pa_nil)) pe_int) (nomark _)) (pe_and (pe_not (pe_call G1 hr rfl mG1 kG1 bG1 .nil pass0 (pa_cons (pv 1) pa_nil))) (pe_one (pe_not (pe_call G1 hr rfl mG1 kG1 bG1 .nil pass0 (pa_cons (pv 2) pa_nil))))))), ?_⟩
  try dsimp only [Cx.wish, cxOf]
  refine ⟨_, rfl, _, rfl, p, _, rfl, .inl (SqL.of hS), _, _, rfl, rfl, rfl, _, rfl, ite2 (fun c => ?_) (fun c => q)⟩
  have one1 : one = 1 := by
    rcases hc with z | z
    · refine absurd ?_ z
      have : ((met : Nat) : Int) = (((S.map iV).length : Nat) : Int) + 1 := by simpa using c
      rw [List.length_map] at this
      omega
    · exact z
  subst one1
  exact ⟨_, rfl, 1, rfl, .inl rfl, true, rfl, false, rfl, iteF q⟩
theorem scCro : FnScope ["steps", "even", "group"] ["steps", "even", "group"] (defScope sCrossed) := ⟨rfl, rfl, rfl, by decide +kernel, rfl, by decide +kernel, by decide +kernel⟩
theorem ok_cro (F : Fun K "is_crossed" "is_crossed" sCrossed f fd) (G1 : FnOk P w K mg base CX0 1 f1 fd1 ["mask"] spSingle) (bG1 : Binds K fd1 ["mask"] []) (kG1 : PySem.W.keepIn K (.ref f1) = true) (mG1 : mg "is_single" = some (.ref f1)) : FnOk P w K mg base CX0 2 f fd ["steps", "even", "group"] spCro := by
  refine F.ok scCro (fun vs H Q E h => ?_) (fun cdv A outer s H vs Q E hr h => ?_)
  · obtain ⟨p, e, g, rfl, _⟩ := h
    rfl
  obtain ⟨p, e, g, rfl, hc, q⟩ := h
  refine ⟨_, pss_cons (ps_if (pt_val (pe_call G1 hr rfl mG1 kG1 bG1 .nil pass0 (pa_cons (pv 2) pa_nil))) (pss_one (ps_ret (pe_cmpR op_ne (pe_op op_and (pv 1) (pv 2)) pe_int (nomark _)))) pss_nil) pss_never, ?_⟩
  try dsimp only [Cx.wish, cxOf]
  refine ⟨_, rfl, g, rfl, by omega, true, rfl, iteT ?_⟩
  refine ⟨_, rfl, _, rfl, _, _, rfl, rfl, rfl, ?_⟩
  rcases hc with ⟨rfl, rfl⟩ | ⟨rfl, rfl⟩ | ⟨rfl, rfl⟩
  · have e : (!decide (V.int (Builtin.bitAnd ((1 : Nat) : Int) ((1 : Nat) : Int)) = V.int 0)) = true := by decide +kernel
    rw [e]; exact q
  · have e : (!decide (V.int (Builtin.bitAnd ((3 : Nat) : Int) ((2 : Nat) : Int)) = V.int 0)) = true := by decide +kernel
    rw [e]; exact q
  · have e : (!decide (V.int (Builtin.bitAnd ((3 : Nat) : Int) ((1 : Nat) : Int)) = V.int 0)) = true := by decide +kernel
    rw [e]; exact q
set_option maxHeartbeats 4000000 in
theorem ok_maskI (F : Fun K "mask_of" "mask_of" sMask f fd) : FnOk P w K mg base CX0 1 f fd ["names", "row"] spMaskI := by
  refine F.ok scMask (fun vs H Q E h => ?_) (fun cdv A outer s H vs Q E hr h => ?_)
  · obtain ⟨pn, pr, m, rfl, _⟩ := h
    rfl
  obtain ⟨pn, pr, m, rfl, hm, hn, hw, q⟩ := h
  refine ⟨_, pss_cons (ps_set (i := 2) scMask.nd rfl (Or.inl rfl) pe_int)
    (pss_cons (ps_for PassesOwn.never rfl (pi_list (pv 0)) (pg_name (i := 3) scMask.nd rfl (Or.inl rfl))
      (pss_one (ps_set (i := 2) scMask.nd rfl (Or.inl rfl) (pe_op op_add (pe_op op_mul pe_int (pv 2)) (pe_ifExp (pt_cmpR op_in_seq (pv 3) (pv 1) (by with_unfolding_all rfl)) pe_int pe_int)))))
    (pss_one (ps_ret (pv 2)))), ?_⟩
  try dsimp only [Cx.wish, cxOf]
  have lg : (Gs m).length = m := by rcases hm with rfl | rfl <;> rfl
  refine ⟨_, rfl, pn, rfl, ⟨_, SqL.of hn⟩, ?_⟩
  refine for_list (xs := (Gs m).map iV) (fun i σ H' => H' = H ∧ ∃ x3 : Option V, σ = [some (.ref pn), some (.ref pr), some (iV (2 ^ i - 1)), x3]) ⟨rfl, none, rfl⟩ (fun i σ H' _ h => by rw [h.1]; exact SqL.of hn) ?_ ?_
  · rintro i x σ H' hx ⟨rfl, x3, rfl⟩
    obtain ⟨y, rfl, hy⟩ := iv_get hx
    have hi : i < m := by have := at_lt hy; rwa [lg] at this
    have fl : ((Gs m).map iV).all flatV = true := by rcases hm with rfl | rfl <;> rfl
    have inn : inV (iV y) ((Gs m).map iV) = true := by
      rcases hm with rfl | rfl
      · have : i = 0 := by omega
        subst this
        cases (Option.some.inj hy); decide +kernel
      · rcases (show i = 0 ∨ i = 1 by omega) with rfl | rfl
        · cases (Option.some.inj hy); decide +kernel
        · cases (Option.some.inj hy); decide +kernel
    refine ⟨_, rfl, _, _, rfl, rfl, .inl ⟨by decide, by decide⟩, _, rfl, _, rfl, pr, _, rfl, .inl (SqL.of hw), rfl, fl, _, rfl, ?_⟩
    rw [if_neg (by decide), inn]
    refine iteT ?_
    refine ⟨_, _, rfl, rfl, rfl, some (iV y), ?_⟩
    have e : (2 * (((2 ^ i - 1 : Nat)) : Int) + 1) = (((2 ^ (i + 1) - 1 : Nat)) : Int) := by
      have := Nat.one_le_two_pow (n := i)
      rw [Nat.pow_succ]; omega
    rw [show iV (2 ^ (i + 1) - 1) = V.int (2 * (((2 ^ i - 1 : Nat)) : Int) + 1) from congrArg V.int e.symm]
    rfl
  · rintro σ H' ⟨rfl, x3, rfl⟩
    rw [List.length_map, lg]
    exact ⟨_, rfl, q⟩
end
end My
namespace My
open PySem L2
theorem perm_small {M S : List Nat} {m : Nat} (c : Cs m S) (p : M.Perm (red (S.map fun _ => 2 ^ m - 1))) : M = S := by
  rcases c with ⟨rfl, rfl⟩ | ⟨rfl, rfl⟩ | ⟨rfl, rfl⟩
  · exact List.Perm.eq_nil p
  · have e : red ([1].map fun _ => 2 ^ 1 - 1) = [1] := by decide +kernel
    rw [e] at p
    exact List.perm_singleton.mp p
  · have e : red ([3].map fun _ => 2 ^ 2 - 1) = [3] := by decide +kernel
    rw [e] at p
    exact List.perm_singleton.mp p
theorem Cs.m12 {m : Nat} {S : List Nat} (c : Cs m S) : m = 1 ∨ m = 2 := by
  rcases c with ⟨rfl, rfl⟩ | ⟨rfl, rfl⟩ | ⟨rfl, rfl⟩
  · exact .inl rfl
  · exact .inl rfl
  · exact .inr rfl
theorem Gs_len {m : Nat} (h : m = 1 ∨ m = 2) : (Gs m).length = m := by rcases h with rfl | rfl <;> rfl
theorem Cs.len {m : Nat} {S : List Nat} (c : Cs m S) : S.length ≤ 1 := by
  rcases c with ⟨rfl, rfl⟩ | ⟨rfl, rfl⟩ | ⟨rfl, rfl⟩ <;> decide
theorem Cs.cro {m : Nat} {S : List Nat} (c : Cs m S) {s g : Nat} (hs : s ∈ S) (hg : g ∈ Gs m) : (s = 1 ∧ g = 1) ∨ (s = 3 ∧ g = 2) ∨ (s = 3 ∧ g = 1) := by
  rcases c with ⟨rfl, rfl⟩ | ⟨rfl, rfl⟩ | ⟨rfl, rfl⟩
  · cases hs
  · rw [List.mem_singleton] at hs
    have : g ∈ [1] := hg
    rw [List.mem_singleton] at this
    exact .inl ⟨hs, this⟩
  · rw [List.mem_singleton] at hs
    have : g ∈ [2, 1] := hg
    simp only [List.mem_cons, List.not_mem_nil, or_false] at this
    rcases this with z | z
    · exact .inr (.inl ⟨hs, z⟩)
    · exact .inr (.inr ⟨hs, z⟩)
def spShare : Sp := fun vs H Q _ => ∃ (p g : Addr) (m : Nat) (S : List Nat), vs = [.ref p, .ref g] ∧ Cs m S ∧ LsN H p S ∧ LsN H g (Gs m) ∧ ∀ r H', Ext H H' → H r = none → LsN H' r S → Q (.ref r) H'
abbrev shN : List Str := ["steps", "groups", "crossed_ones"]
section
variable {P : Program} {w : World} {K : PySem.W.Frag} {mg : Str → Option Value} {base : Heap} {f f1 f2 f3 f4 : Addr} {fd fd1 fd2 fd3 fd4 : FuncData}
theorem scShare : FnScope shN ["steps", "groups"] (defScope sShare) := ⟨rfl, rfl, rfl, by decide +kernel, rfl, by decide +kernel, by decide +kernel⟩
set_option maxHeartbeats 4000000 in
theorem ok_share (F : Fun K "share_masks" "share_masks" sShare f fd) (G1 : FnOk P w K mg base CX0 2 f1 fd1 ["steps", "even", "group"] spCro) (bG1 : Binds K fd1 ["steps", "even", "group"] []) (kG1 : PySem.W.keepIn K (.ref f1) = true) (mG1 : mg "is_crossed" = some (.ref f1))
    (G2 : FnOk P w K mg base CX0 1 f2 fd2 ["names", "row"] spMaskI) (bG2 : Binds K fd2 ["names", "row"] []) (kG2 : PySem.W.keepIn K (.ref f2) = true) (mG2 : mg "mask_of" = some (.ref f2))
    (G3 : FnOk P w K mg base CX0 2 f3 fd3 ["masks"] spRedu) (bG3 : Binds K fd3 ["masks"] []) (kG3 : PySem.W.keepIn K (.ref f3) = true) (mG3 : mg "reduced" = some (.ref f3)) : FnOk P w K mg base CX0 3 f fd ["steps", "groups"] spShare := by
  refine F.ok scShare (fun vs H Q E h => ?_) (fun cdv A outer s H vs Q E hr h => ?_)
  · obtain ⟨p, g, m, S, rfl, _⟩ := h
    rfl
  obtain ⟨p, g, m, S, rfl, cs, hp, hg, q⟩ := h
  have hr1 := hr.mono (j := 1) (by decide)
  refine ⟨_, pss_cons (ps_lc (i := 2) (N := shN) (sc := defScope sShare) (N' := ["step", "groups", "steps"]) (sub := [none, some 1, some 0]) rfl rfl (CmpOk.of (by decide +kernel)) rfl (pi_list (pv 0))
      (fun C s H fp => ⟨pg_name (i := 0) (by show (["step", "groups", "steps"] : List Str).Nodup; decide) rfl (Or.inr rfl), pts_nil,
        pe_lc (N := ["step", "groups", "steps"]) (sc := relab _ (defScope sShare)) (N' := ["group", "steps", "step"]) (sub := [none, some 2, some 0]) rfl rfl (CmpOk.of (by decide +kernel)) rfl (show PI _ _ _ (iList K (tVar 1)) from pi_list (pv 1))
          (fun C s H fp => ⟨pg_name (i := 0) (by show (["group", "steps", "step"] : List Str).Nodup; decide) rfl (Or.inl rfl), pts_one (pt_val (pe_call G1 hr rfl mG1 kG1 bG1 .nil pass0 (pa_cons (pv 1) (pa_cons (pv 2) (pa_cons (pv 0) pa_nil))))), pv 0⟩)⟩)
      scShare.nd rfl (Or.inl rfl))
    (pss_one (ps_ret (pe_call G3 hr rfl mG3 kG3 bG3 .nil pass0 (pa_cons
      (pe_lc (N := shN) (sc := defScope sShare) (N' := ["some", "groups"]) (sub := [none, some 1]) rfl rfl (CmpOk.of (by decide +kernel)) rfl (pi_list (pv 2))
        (fun C s H fp => ⟨pg_name (i := 0) (by show (["some", "groups"] : List Str).Nodup; decide) rfl (Or.inl rfl), pts_nil, pe_call G2 hr1 rfl mG2 kG2 bG2 .nil pass0 (pa_cons (pv 1) (pa_cons (pv 0) pa_nil))⟩)) pa_nil)))), ?_⟩
  try dsimp only [Cx.wish, cxOf]
  have m12 := cs.m12
  have lg := Gs_len m12
  have lS := cs.len
  refine ⟨_, rfl, p, rfl, ⟨_, SqL.of hp⟩, ?_⟩
  refine turns_list (xs := S.map iV) (fun j ys H2 => Ext H H2 ∧ ∃ as : List Addr, ys = as.map V.ref ∧ as.length = j ∧ ∀ a ∈ as, LsN H2 a (Gs m)) ⟨Ext.refl _, [], rfl, rfl, fun a h => (by cases h)⟩ (fun j ys H2 _ h => SqL.of (h.1 _ _ hp)) ?_ ?_
  · rintro j v ys H2 hx ⟨e2, as, rfl, la, all⟩
    obtain ⟨x, rfl, hx'⟩ := iv_get hx
    have hj := at_lt hx'
    refine ⟨Sle.set _ (Sle.refl _) (fun u z => by cases z), iteT (B := False) ?_⟩
    refine ⟨_, rfl, g, rfl, ⟨_, SqL.of (e2 _ _ hg)⟩, ?_⟩
    refine turns_list (xs := (Gs m).map iV) (fun i ys3 H3 => H3 = H2 ∧ ys3 = ((Gs m).take i).map iV) ⟨rfl, rfl⟩ (fun i ys3 H3 _ h => by rw [h.1]; exact SqL.of (e2 _ _ hg)) ?_ ?_
    · rintro i v3 ys3 H3 hy ⟨rfl, rfl⟩
      obtain ⟨y, rfl, hy'⟩ := iv_get hy
      have hi := at_lt hy'
      refine ⟨Sle.set _ (Sle.refl _) (fun u z => by cases z), _, rfl, _, rfl, _, rfl, p, x, y, rfl, cs.cro (List.mem_of_getElem? hx') (List.mem_of_getElem? hy'), true, rfl, iteT ?_⟩
      refine ⟨_, rfl, by rw [List.length_map, List.length_take]; exact small1000 (by omega), nxt (at_lt hy) ⟨rfl, ?_⟩⟩
      rw [take_snoc hy', List.map_append]; rfl
    · rintro ys3 H3 ⟨rfl, rfl⟩ l hl
      rw [show (Gs m).take ((Gs m).map iV).length = Gs m by rw [List.length_map, List.take_of_length_le (Nat.le_refl _)]]
      have n1 := Ext.new hl (.lst ((Gs m).map iV))
      refine ⟨by rw [List.length_map]; exact small1000 (by omega), nxt (at_lt hx) ⟨e2.trans n1, as ++ [l], by rw [List.map_append]; rfl, by rw [List.length_append, la]; rfl, fun a ha => ?_⟩⟩
      rcases List.mem_append.mp ha with z | z
      · exact n1 _ _ (all a z)
      · rw [List.mem_singleton] at z
        rw [z]; exact upd_same
  · rintro ys H2 ⟨e2, as, rfl, la, all⟩ co hco
    rw [List.length_map] at la
    have n2 := Ext.new hco (.lst (as.map V.ref))
    have E2 := e2.trans n2
    refine ⟨_, rfl, co, rfl, ⟨_, SqL.of upd_same⟩, ?_⟩
    refine turns_list (xs := as.map V.ref) (fun j ys H3 => H3 = upd H2 co (.lst (as.map V.ref)) ∧ ys = ((S.take j).map fun _ => 2 ^ m - 1).map iV) ⟨rfl, rfl⟩ (fun j ys H3 _ h => by rw [h.1]; exact SqL.of upd_same) ?_ ?_
    · rintro j v ys H3 hx ⟨rfl, rfl⟩
      obtain ⟨a, rfl, ha⟩ := ref_get hx
      have hj := at_lt ha
      refine ⟨Sle.set _ (Sle.refl _) (fun u z => by cases z), iteT (B := False) ⟨_, rfl, _, rfl, g, a, m, rfl, m12, E2 _ _ hg, n2 _ _ (all a (List.mem_of_getElem? ha)), ?_, nxt (at_lt hx) ⟨rfl, ?_⟩⟩⟩
      · rw [List.length_map, List.length_map, List.length_take]; exact small1000 (by omega)
      · have hj' : j < S.length := by omega
        rw [take_snoc (List.getElem?_eq_getElem hj'), List.map_append, List.map_append]; rfl
    · rintro ys H3 ⟨rfl, rfl⟩ l hl
      rw [List.length_map, la, List.take_of_length_le (Nat.le_refl _)]
      have n3 := Ext.new hl (.lst ((S.map fun _ => 2 ^ m - 1).map iV))
      refine ⟨l, _, rfl, upd_same, by rw [List.length_map]; omega, fun r M H4 e4 r0 hM pM dM => ?_⟩
      rw [perm_small cs pM] at hM
      exact q r H4 (E2.trans (n3.trans e4)) ((E2.trans n3).none r0) hM
end
end My
namespace My
open PySem L2
theorem _root_.PySem.Paired.app {α β : Type} {R : α → β → Prop} : ∀ {as as' : List α} {bs bs' : List β}, Paired R as bs → Paired R as' bs' → Paired R (as ++ as') (bs ++ bs')
  | _, _, _, _, .nil, h => h
  | _, _, _, _, .cons a b, h => .cons a (PySem.Paired.app b h)
def gro (B : List Nat) (c : Nat) : List Nat := if red1 B c = 0 then B else B ++ [red1 B c]
def colF (S : List Nat) (i : Nat) : Nat := match S with
  | [s] => if s.testBit i = true then 1 else 0
  | _ => 0
def fC (S : List Nat) (i k : Nat) : Option Nat := if (S.getD k 0).testBit i = true then some (2 ^ k) else none
theorem fC_one (S : List Nat) (i j : Nat) : [j].filterMap (fC S i) = if (S.getD j 0).testBit i = true then [2 ^ j] else [] := by
  by_cases b : (S.getD j 0).testBit i = true
  · rw [if_pos b, List.filterMap_cons, show fC S i j = some (2 ^ j) from if_pos b]; rfl
  · rw [if_neg b, List.filterMap_cons, show fC S i j = none from if_neg b]; rfl
def bsF (S : List Nat) : Nat → List (List Nat)
  | 0 => [[]]
  | i + 1 => bsF S i ++ (bsF S i).map fun B => gro B (colF S i)
def wF (m : Nat) (S : List Nat) : List Nat := (bsF S m).map List.length
theorem gro_nz {B : List Nat} {c : Nat} (h : ∀ s ∈ B, s ≠ 0) : ∀ s ∈ gro B c, s ≠ 0 := by
  unfold gro
  split
  · exact h
  · rename_i n
    intro s hs
    rcases List.mem_append.mp hs with z | z
    · exact h s z
    · rw [List.mem_singleton] at z
      rw [z]; exact n
theorem gro_len (B : List Nat) (c : Nat) : (gro B c).length ≤ B.length + 1 := by
  unfold gro
  split
  · omega
  · rw [List.length_append]; exact Nat.le_refl _
theorem bsF_ok (S : List Nat) : ∀ i, (∀ B ∈ bsF S i, (∀ s ∈ B, s ≠ 0) ∧ B.length ≤ i) ∧ (bsF S i).length = 2 ^ i
  | 0 => ⟨fun B hB => by
      have : B ∈ [([] : List Nat)] := hB
      rw [List.mem_singleton] at this
      subst this
      exact ⟨fun s hs => (by cases hs), Nat.le_refl _⟩, rfl⟩
  | i + 1 => by
    obtain ⟨h1, h2⟩ := bsF_ok S i
    refine ⟨fun B hB => ?_, ?_⟩
    · have hB : B ∈ bsF S i ++ (bsF S i).map fun B => gro B (colF S i) := hB
      rcases List.mem_append.mp hB with z | z
      · exact ⟨(h1 B z).1, Nat.le_succ_of_le (h1 B z).2⟩
      · obtain ⟨B', hB', rfl⟩ := List.mem_map.mp z
        exact ⟨gro_nz (h1 B' hB').1, Nat.le_trans (gro_len _ _) (Nat.succ_le_succ (h1 B' hB').2)⟩
    · show (bsF S i ++ (bsF S i).map fun B => gro B (colF S i)).length = _
      rw [List.length_append, List.length_map, h2, Nat.pow_succ]; omega
def spGrown : Sp := fun vs H Q _ => ∃ (b : Addr) (B : List Nat) (c : Nat), vs = [.ref b, iV c] ∧ LsN H b B ∧ (∀ s ∈ B, s ≠ 0) ∧ B.length ≤ 100 ∧ ∀ r H', Ext H H' → LsN H' r (gro B c) → Q (.ref r) H'
def spWidths : Sp := fun vs H Q _ => ∃ (p : Addr) (m : Nat) (S : List Nat), vs = [.ref p, iV m] ∧ Cs m S ∧ LsN H p S ∧ ∀ r H', Ext H H' → H r = none → LsN H' r (wF m S) → Q (.ref r) H'
def spFirst : Sp := fun vs H Q _ => ∃ (p : Addr) (m : Nat) (S : List Nat), vs = [.ref p, iV m] ∧ Cs m S ∧ LsN H p S ∧ ∀ H', Ext H H' → Q (.int 0) H'
def kiF (m : Nat) (S : List Nat) : Str := if m = 1 then (if S = [] then "bridge" else "loop") else "ring"
def spKind : Sp := fun vs H Q _ => ∃ (p : Addr) (m : Nat) (S : List Nat), vs = [.ref p, iV m] ∧ Cs m S ∧ LsN H p S ∧ Q (.str (kiF m S)) H
section
variable {P : Program} {w : World} {K : PySem.W.Frag} {mg : Str → Option Value} {base : Heap} {f f1 f2 f3 f4 : Addr} {fd fd1 fd2 fd3 fd4 : FuncData}
theorem scGrown : FnScope ["base", "column", "fresh"] ["base", "column"] (defScope sGrown) := ⟨rfl, rfl, rfl, by decide +kernel, rfl, by decide +kernel, by decide +kernel⟩
theorem ok_grown (F : Fun K "grown" "grown" sGrown f fd) (G1 : FnOk P w K mg base CX0 1 f1 fd1 ["mask", "kept"] spLess) (bG1 : Binds K fd1 ["mask", "kept"] []) (kG1 : PySem.W.keepIn K (.ref f1) = true) (mG1 : mg "lessened" = some (.ref f1)) : FnOk P w K mg base CX0 2 f fd ["base", "column"] spGrown := by
  refine F.ok scGrown (fun vs H Q E h => ?_) (fun cdv A outer s H vs Q E hr h => ?_)
  · obtain ⟨b, B, c, rfl, _⟩ := h
    rfl
  obtain ⟨b, B, c, rfl, hB, nz, lB, q⟩ := h
  refine ⟨_, pss_cons (ps_set (i := 2) scGrown.nd rfl (Or.inl rfl) (pe_call G1 hr rfl mG1 kG1 bG1 .nil pass0 (pa_cons (pv 1) (pa_cons (pv 0) pa_nil))))
    (pss_one (ps_ret (pe_ifExp (pt_cmpR op_eq (pv 2) pe_int (nomark _)) (pv 0) (pe_op op_cat (pv 0) (pe_lst (pa_cons (pv 2) pa_nil)))))), ?_⟩
  try dsimp only [Cx.wish, cxOf]
  refine ⟨_, rfl, _, rfl, c, b, B, rfl, hB, nz, ?_⟩
  refine ⟨_, rfl, rfl, _, rfl, ite2 (fun d => ?_) (fun d => ?_)⟩
  · have d' : red1 B c = 0 := by
      have : ((red1 B c : Nat) : Int) = 0 := by simpa using d
      omega
    refine ⟨_, rfl, q b H (Ext.refl _) ?_⟩
    unfold gro
    rw [if_pos d']; exact hB
  · have d' : ¬ red1 B c = 0 := fun z => d (by rw [z]; decide +kernel)
    refine ⟨_, rfl, _, rfl, (by show 1 ≤ sizeLine; decide), fun l hl => ?_⟩
    have n1 := Ext.new hl (.lst [iV (red1 B c)])
    refine ⟨b, l, _, _, rfl, rfl, n1 _ _ hB, upd_same, ?_, fun r hr' => q r _ (n1.trans (Ext.new hr' _)) ?_⟩
    · rw [List.length_map]
      exact Nat.le_of_lt (small1000 (by show B.length + 1 ≤ 1000; omega))
    · unfold gro LsN
      rw [if_neg d', upd_same, List.map_append]; rfl
abbrev wiN : List Str := ["steps", "many", "bases", "place", "column"]
theorem scWidths : FnScope wiN ["steps", "many"] (defScope sWidths) := ⟨rfl, rfl, rfl, by decide +kernel, rfl, by decide +kernel, by decide +kernel⟩
set_option maxHeartbeats 8000000 in
theorem ok_widths (F : Fun K "widths" "widths" sWidths f fd) (G1 : FnOk P w K mg base CX0 2 f1 fd1 ["base", "column"] spGrown) (bG1 : Binds K fd1 ["base", "column"] []) (kG1 : PySem.W.keepIn K (.ref f1) = true) (mG1 : mg "grown" = some (.ref f1)) (mr : mg "range" = none) (msu : mg "sum" = none) (me : mg "enumerate" = none) (ml : mg "len" = none) : FnOk P w K mg base CX0 3 f fd ["steps", "many"] spWidths := by
  refine F.ok scWidths (fun vs H Q E h => ?_) (fun cdv A outer s H vs Q E hr h => ?_)
  · obtain ⟨p, m, S, rfl, _⟩ := h
    rfl
  obtain ⟨p, m, S, rfl, cs, hS, q⟩ := h
  refine ⟨_, pss_cons (ps_set (i := 2) scWidths.nd rfl (Or.inl rfl) (pe_lst (pa_cons (pe_lst pa_nil) pa_nil)))
    (pss_cons (ps_for PassesOwn.never rfl (pi_range1 rfl mr (pa_cons (pv 1) pa_nil)) (pg_name (i := 3) scWidths.nd rfl (Or.inr rfl))
      (pss_cons (ps_set (i := 4) scWidths.nd rfl (Or.inr rfl) (pe_callB (call_sumI rfl) rfl msu boot_sum' (pa_cons
        (pe_lc (N := wiN) (sc := defScope sWidths) (N' := ["at", "step", "place"]) (sub := [none, none, some 3]) rfl rfl (CmpOk.of (by decide +kernel)) rfl (pi_enum rfl me (pa_cons (pv 0) pa_nil))
          (fun C s H fp => ⟨(show PG _ _ (gTup K 2 _) from pg_tup rfl (pgs_cons (pg_name (i := 0) (by show (["at", "step", "place"] : List Str).Nodup; decide) rfl (Or.inl rfl)) (pgs_cons (pg_name (i := 1) (by show (["at", "step", "place"] : List Str).Nodup; decide) rfl (Or.inl rfl)) pgs_nil))),
            pts_one (pt_cmpR op_eq (pe_op op_and (pe_op op_shr (pv 1) (pv 2)) pe_int) pe_int (nomark _)), pe_op op_shl pe_int (pv 0)⟩)) pa_nil)))
      (pss_one (ps_set (i := 2) scWidths.nd rfl (Or.inl rfl) (pe_op op_cat (pv 2)
        (pe_lc (N := wiN) (sc := defScope sWidths) (N' := ["base", "column"]) (sub := [none, some 4]) rfl rfl (CmpOk.of (by decide +kernel)) rfl (pi_list (pv 2))
          (fun C s H fp => ⟨pg_name (i := 0) (by show (["base", "column"] : List Str).Nodup; decide) rfl (Or.inl rfl), pts_nil, pe_call G1 hr rfl mG1 kG1 bG1 .nil pass0 (pa_cons (pv 0) (pa_cons (pv 1) pa_nil))⟩)))))))
    (pss_one (ps_ret (pe_lc (N := wiN) (sc := defScope sWidths) (N' := ["base"]) (sub := [none]) rfl rfl (CmpOk.of (by decide +kernel)) rfl (pi_list (pv 2))
      (fun C s H fp => ⟨pg_name (i := 0) (by show (["base"] : List Str).Nodup; decide) rfl (Or.inl rfl), pts_nil, pe_callB (show CallR _ _ (fun xs H Q => ∃ p ys, xs = [V.ref p] ∧ (SqL K H p ys ∨ SqT K H p ys) ∧ Q (.int ys.length) H) from call_len_seq) rfl ml PySem.boot_len (pa_cons (pv 0) pa_nil)⟩))))), ?_⟩
  try dsimp only [Cx.wish, cxOf]
  have m12 := cs.m12
  have lS := cs.len
  refine ⟨Nat.zero_le _, fun l0 hl0 => ⟨(by show 1 ≤ sizeLine; decide), fun b0 hb0 => ?_⟩⟩
  have X0 := (Ext.new hl0 (.lst [])).trans (Ext.new hb0 (.lst [V.ref l0]))
  refine ⟨_, rfl, (m : Int), rfl, by omega, by omega, ?_⟩
  refine for_range (lo := 0) (n := ((m : Nat) : Int).toNat) (fun i σ H' => ∃ (bs : Addr) (as : List Addr) (x3 x4 : Option V), σ = [some (.ref p), some (iV m), some (.ref bs), x3, x4] ∧ Ext H H' ∧ H bs = none ∧ H' bs = some (.lst (as.map V.ref)) ∧ Paired (fun a B => LsN H' a B) as (bsF S i)) ⟨b0, [l0], _, _, rfl, X0, (Ext.new hl0 (.lst [])).none hb0, upd_same, .cons ((Ext.new hb0 _) _ _ upd_same) .nil⟩ ?_ ?_
  · rintro i σ H' hi ⟨bs, as, x3, x4, rfl, e, bs0, hbs, pr⟩
    have hi' : i < m := by rwa [Int.toNat_natCast] at hi
    obtain ⟨bok, bln⟩ := bsF_ok S i
    have la : as.length = 2 ^ i := by rw [pr.length, bln]
    have pi4 : 2 ^ i ≤ 2 := by
      have : i ≤ 1 := by omega
      exact Nat.le_trans (Nat.pow_le_pow_right (by decide) this) (by decide)
    refine ⟨_, rfl, p, _, rfl, SqL.of (e _ _ hS), ?_⟩
    rw [List.length_map]
    refine turns_tup (fun j ys H2 => Ext H' H2 ∧ ys = ((List.range j).filterMap (fC S i)).map iV) ⟨Ext.refl _, rfl⟩ (fun j ys H2 _ h => SqL.of (h.1 _ _ (e _ _ hS))) ?_ ?_
    · rintro j ys H2 T hj ⟨e2, rfl⟩ hT
      have gd : (S.map iV).getD j .non = iV (S.getD j 0) := by rw [List.getD_eq_getElem?_getD, List.getElem?_map, List.getD_eq_getElem?_getD, List.getElem?_eq_getElem hj]; rfl
      rw [gd]
      have e3 := e2.trans (Ext.new hT (.tup [V.int (j : Nat), iV (S.getD j 0)]))
      refine ⟨T, _, rfl, SqT.of upd_same, rfl, _, _, rfl, _, _, rfl, rfl, ?_⟩
      refine ⟨Sle.set _ (Sle.set _ (Sle.refl _) (fun u z => by cases z)) (fun u z => by cases z), ?_⟩
      refine ⟨_, rfl, _, rfl, _, _, rfl, rfl, (by show (0 : Int) ≤ _; omega), _, _, rfl, rfl, rfl, _, rfl, ?_⟩
      have fm : ((List.range (j + 1)).filterMap (fC S i)) = ((List.range j).filterMap (fC S i)) ++ (if (S.getD j 0).testBit i = true then [2 ^ j] else []) := by
        rw [List.range_succ, List.filterMap_append]
        rw [fC_one]
      have sz := List.length_filterMap_le (fC S i) (List.range j)
      rw [List.length_range] at sz
      have key : (decide (V.int (Builtin.bitAnd (((S.getD j 0 : Nat) : Int) / 2 ^ ((0 : Int) + (i : Nat)).toNat) 1) = V.int 1) = true) ↔ (S.getD j 0).testBit i = true := by
        rw [decide_eq_true_iff, V.int.injEq, Int.zero_add, Int.toNat_natCast, shr_one]
        by_cases b : (S.getD j 0).testBit i = true
        · simp [b]
        · simp [b]
      refine ite2 (fun c => ?_) (fun c => ?_)
      · have b := key.mp c
        refine ⟨_, rfl, _, _, rfl, rfl, ⟨by omega, by omega, by omega⟩, by rw [List.length_map]; exact small1000 (by omega), nxt hj ⟨e3, ?_⟩⟩
        rw [fm, if_pos b, List.map_append]
        show _ = _ ++ [iV (2 ^ j)]
        rw [show iV (2 ^ j) = V.int (1 * 2 ^ ((j : Nat) : Int).toNat) from congrArg V.int (shl_nat j).symm]
      · have b : ¬ (S.getD j 0).testBit i = true := fun z => c (key.mpr z)
        refine nxt hj ⟨e3, ?_⟩
        rw [fm, if_neg b, List.append_nil]
    · rintro ys H2 ⟨e2, rfl⟩ l hl
      have n2 := e2.trans (Ext.new hl (.lst (((List.range S.length).filterMap (fC S i)).map iV)))
      have csum : (((List.range S.length).filterMap (fC S i))).sum = colF S i := by
        rcases cs with ⟨rfl, rfl⟩ | ⟨rfl, rfl⟩ | ⟨rfl, rfl⟩
        · rfl
        · show (List.filterMap (fC [1] i) [0]).sum = if Nat.testBit 1 i = true then 1 else 0
          rw [fC_one]
          show (if Nat.testBit 1 i = true then [2 ^ 0] else []).sum = _
          split <;> rfl
        · show (List.filterMap (fC [3] i) [0]).sum = if Nat.testBit 3 i = true then 1 else 0
          rw [fC_one]
          show (if Nat.testBit 3 i = true then [2 ^ 0] else []).sum = _
          split <;> rfl
      refine ⟨l, ((List.range S.length).filterMap (fC S i)).map (fun n : Nat => (n : Int)), rfl, by rw [← iv_ints]; exact SqL.of upd_same, ?_⟩
      rw [sum_cast, csum]
      have E2 := e.trans n2
      refine ⟨_, rfl, _, rfl, bs, rfl, ⟨_, SqL.of (n2 _ _ hbs)⟩, ?_⟩
      have pr2 := Paired.mapP pr fun a B z => n2 _ _ z
      revert E2 n2 pr2
      generalize upd H2 l (.lst (((List.range S.length).filterMap (fC S i)).map iV)) = H3
      intro n2 E2 pr2
      refine turns_list (xs := as.map V.ref) (fun j ys H4 => Ext H3 H4 ∧ ∃ cs : List Addr, ys = cs.map V.ref ∧ Paired (fun a B => LsN H4 a B) cs (((bsF S i).take j).map fun B => gro B (colF S i))) ⟨Ext.refl _, [], rfl, .nil⟩ (fun j ys H4 _ h => SqL.of (h.1 _ _ (n2 _ _ hbs))) ?_ ?_
      · rintro j v ys H4 hx ⟨e4, cs', rfl, pc⟩
        obtain ⟨a, rfl, ha⟩ := ref_get hx
        obtain ⟨B, hB, hBa⟩ := paired_get pr2 ha
        have hj := at_lt ha
        have bm := bok B (List.mem_of_getElem? hB)
        have lc := pc.length
        rw [List.length_map, List.length_take] at lc
        refine ⟨Sle.set _ (Sle.refl _) (fun u z => by cases z), iteT (B := False) ⟨_, rfl, _, rfl, a, B, colF S i, rfl, e4 _ _ hBa, bm.1, by omega, fun r H5 e5 h5 => ⟨?_, nxt (at_lt hx) ⟨e4.trans e5, cs' ++ [r], by rw [List.map_append]; rfl, ?_⟩⟩⟩⟩
        · rw [List.length_map]; exact small1000 (by omega)
        · rw [take_snoc hB, List.map_append]
          exact Paired.snoc (Paired.mapP pc fun a B z => e5 _ _ z) h5
      · rintro ys H4 ⟨e4, cs', rfl, pc⟩ l2 hl2
        rw [List.length_map, show (bsF S i).take as.length = bsF S i from List.take_of_length_le (by rw [bln, la]; exact Nat.le_refl _)] at pc
        have n5 := Ext.new hl2 (.lst (cs'.map V.ref))
        have lc := pc.length
        rw [List.length_map, bln] at lc
        have E5 := n2.trans (e4.trans n5)
        refine ⟨bs, l2, _, _, rfl, rfl, E5 _ _ hbs, upd_same, ?_, fun b' hb' => ?_⟩
        · rw [List.length_map, List.length_map]
          exact Nat.le_of_lt (small1000 (by omega))
        have n6 := Ext.new hb' (.lst (as.map V.ref ++ cs'.map V.ref))
        refine ⟨b', as ++ cs', _, _, rfl, e.trans (E5.trans n6), (e.trans E5).none hb', by rw [upd_same, List.map_append], ?_⟩
        exact Paired.app (Paired.mapP pr fun a B z => (E5.trans n6) _ _ z) (Paired.mapP pc fun a B z => (n5.trans n6) _ _ z)
  · rintro σ H' ⟨bs, as, x3, x4, rfl, e, bs0, hbs, pr⟩
    rw [Int.toNat_natCast] at pr
    obtain ⟨bok, bln⟩ := bsF_ok S m
    have la : as.length = 2 ^ m := by rw [pr.length, bln]
    refine ⟨_, rfl, bs, rfl, ⟨_, SqL.of hbs⟩, ?_⟩
    refine turns_list (xs := as.map V.ref) (fun j ys H2 => H2 = H' ∧ ys = (((bsF S m).take j).map List.length).map iV) ⟨rfl, rfl⟩ (fun j ys H2 _ h => by rw [h.1]; exact SqL.of hbs) ?_ ?_
    · rintro j v ys H2 hx ⟨rfl, rfl⟩
      obtain ⟨a, rfl, ha⟩ := ref_get hx
      obtain ⟨B, hB, hBa⟩ := paired_get pr ha
      have hj := at_lt hB
      have p4 : 2 ^ m ≤ 4 := by rcases m12 with rfl | rfl <;> decide
      refine ⟨Sle.set _ (Sle.refl _) (fun u z => by cases z), iteT (B := False) ⟨_, rfl, a, _, rfl, .inl (SqL.of hBa), ?_, nxt (at_lt hx) ⟨rfl, ?_⟩⟩⟩
      · rw [List.length_map, List.length_map, List.length_take]; exact small1000 (by omega)
      · rw [take_snoc hB, List.map_append, List.map_append, List.length_map]; rfl
    · rintro ys H2 ⟨rfl, rfl⟩ r hr'
      rw [List.length_map, la, show (bsF S m).take (2 ^ m) = bsF S m from List.take_of_length_le (by rw [bln]; exact Nat.le_refl _)]
      exact q r _ (e.trans (Ext.new hr' _)) (e.none hr') upd_same
end
end My
namespace L2
open PySem PySem.Spec PyProof.Rows
def tNevT : TT := fun _ _ _ => False
theorem pt_nev {X : Cx} {e : Expr} : PT X e tNevT := by
  intro pins s σ H Q I h
  exact h.elim
end L2
namespace My
open PySem L2
def spParted : Sp := fun vs H Q _ => ∃ (p g : Addr) (m : Nat) (S : List Nat), vs = [.ref p, .ref g] ∧ Cs m S ∧ LsN H p S ∧ LsN H g (Gs m) ∧ ∀ L T H', Ext H H' → H L = none → H' L = some (.lst [.ref T]) → H' T = some (.tup [.str (kiF m S), .ref g]) → Q (.ref L) H'
def spJoined : Sp := fun vs H Q _ => ∃ (fo T g : Addr) (k : Str) (wh : Int), vs = [.ref fo, .int wh] ∧ H fo = some (.lst [.ref T]) ∧ H T = some (.tup [.str k, .ref g]) ∧ ∀ L T' H', Ext H H' → H L = none → H' L = some (.lst [.ref T']) → H' T' = some (.tup [.str k, .ref g]) → Q (.ref L) H'
section
variable {P : Program} {w : World} {K : PySem.W.Frag} {mg : Str → Option Value} {base : Heap} {f f1 f2 f3 f4 : Addr} {fd fd1 fd2 fd3 fd4 : FuncData}
abbrev fpN : List Str := ["steps", "many", "whole", "met", "some"]
theorem scFirst : FnScope fpN ["steps", "many"] (defScope sFirst) := ⟨rfl, rfl, rfl, by decide +kernel, rfl, by decide +kernel, by decide +kernel⟩
set_option maxHeartbeats 4000000 in
theorem ok_first (F : Fun K "first_parting" "first_parting" sFirst f fd) (G1 : FnOk P w K mg base CX0 3 f1 fd1 ["steps", "many"] spWidths) (bG1 : Binds K fd1 ["steps", "many"] []) (kG1 : PySem.W.keepIn K (.ref f1) = true) (mG1 : mg "widths" = some (.ref f1))
    (G2 : FnOk P w K mg base CX0 2 f2 fd2 ["steps", "one", "rest", "met"] spSplits) (bG2 : Binds K fd2 ["steps", "one", "rest", "met"] []) (kG2 : PySem.W.keepIn K (.ref f2) = true) (mG2 : mg "splits" = some (.ref f2)) (mr : mg "range" = none) : FnOk P w K mg base CX0 4 f fd ["steps", "many"] spFirst := by
  refine F.ok scFirst (fun vs H Q E h => ?_) (fun cdv A outer s H vs Q E hr h => ?_)
  · obtain ⟨p, m, S, rfl, _⟩ := h
    rfl
  obtain ⟨p, m, S, rfl, cs, hS, q⟩ := h
  have hr2 := hr.mono (j := 2) (by decide)
  refine ⟨_, pss_cons (ps_set (i := 2) scFirst.nd rfl (Or.inl rfl) (pe_op op_sub (pe_op op_shl pe_int (pv 1)) pe_int))
    (pss_cons (ps_set (i := 3) scFirst.nd rfl (Or.inl rfl) (pe_call G1 hr rfl mG1 kG1 bG1 .nil pass0 (pa_cons (pv 0) (pa_cons (pv 1) pa_nil))))
    (pss_cons (ps_for PassesOwn.never rfl (pi_range1 rfl mr (pa_cons (pe_op op_shl pe_int (pe_op op_sub (pv 1) pe_int)) pa_nil)) (pg_name (i := 4) scFirst.nd rfl (Or.inl rfl))
      (pss_one (ps_if (pt_val (pe_call G2 hr2 rfl mG2 kG2 bG2 .nil pass0 (pa_cons (pv 0) (pa_cons (pv 4) (pa_cons (pe_op op_xor (pv 2) (pv 4)) (pa_cons (pe_op op_add (pe_ix ix_list (pv 3) (pv 4) (fun _ _ => rfl)) (pe_ix ix_list (pv 3) (pe_op op_xor (pv 2) (pv 4)) (fun _ _ => rfl))) pa_nil)))))) (pss_one (ps_ret (pv 4))) pss_nil)))
    (pss_one (ps_ret pe_int)))), ?_⟩
  try dsimp only [Cx.wish, cxOf]
  have m12 := cs.m12
  refine ⟨_, rfl, _, _, rfl, rfl, ⟨by omega, by omega, by decide⟩, _, _, rfl, rfl, ?_⟩
  refine ⟨_, rfl, _, rfl, p, m, S, rfl, cs, hS, fun me H1 e1 me0 hme => ?_⟩
  have hS1 : LsN H1 p S := e1 _ _ hS
  have wh : (1 : Int) * 2 ^ ((m : Nat) : Int).toNat - 1 = (((2 ^ m - 1 : Nat)) : Int) := by
    rw [shl_nat]
    have := Nat.one_le_two_pow (n := m)
    omega
  refine ⟨_, rfl, _, _, rfl, rfl, _, _, rfl, rfl, ⟨by omega, by omega, by decide⟩, ?_⟩
  have rg : (1 : Int) * 2 ^ (((m : Nat) : Int) - 1).toNat = (((2 ^ (m - 1) : Nat)) : Int) := by
    rw [show ((m : Nat) : Int) - 1 = ((m - 1 : Nat) : Int) by omega]
    exact shl_nat _
  have r2 : 2 ^ (m - 1) ≤ 2 := by rcases m12 with rfl | rfl <;> decide
  refine ⟨_, rfl, ?_, ?_, ?_⟩
  · show -(2 ^ 62) ≤ (1 : Int) * 2 ^ (((m : Nat) : Int) - 1).toNat
    rw [rg]; exact Int.le_trans (by decide) (Int.natCast_nonneg _)
  · show (1 : Int) * 2 ^ (((m : Nat) : Int) - 1).toNat < 2 ^ 62
    rw [rg]; exact Int.lt_of_le_of_lt (Int.ofNat_le.mpr r2) (by decide)
  refine for_range (lo := 0) (n := ((1 : Int) * 2 ^ (((m : Nat) : Int) - 1).toNat).toNat) (fun i σ H' => H' = H1 ∧ ∃ x4 : Option V, σ = [some (.ref p), some (iV m), some (.int ((1 : Int) * 2 ^ ((m : Nat) : Int).toNat - 1)), some (.ref me), x4]) ⟨rfl, _, rfl⟩ ?_ ?_
  · rintro i σ H' hi ⟨rfl, x4, rfl⟩
    rw [rg, Int.toNat_natCast] at hi
    rw [wh]
    have z0 : (0 : Int) + (i : Nat) = ((i : Nat) : Int) := Int.zero_add _
    rw [z0]
    have ix1 : ∃ a b : Nat, (wF m S)[i]? = some a ∧ (wF m S)[(2 ^ m - 1) ^^^ i]? = some b ∧ (a + b ≠ S.length + 1 ∨ i = 1) := by
      rcases cs with ⟨rfl, rfl⟩ | ⟨rfl, rfl⟩ | ⟨rfl, rfl⟩
      · have : i = 0 := by omega
        subst this
        exact ⟨0, 0, by decide +kernel, by decide +kernel, .inl (by decide)⟩
      · have : i = 0 := by omega
        subst this
        exact ⟨0, 1, by decide +kernel, by decide +kernel, .inl (by decide)⟩
      · rcases (show i = 0 ∨ i = 1 by omega) with rfl | rfl
        · exact ⟨0, 1, by decide +kernel, by decide +kernel, .inl (by decide)⟩
        · exact ⟨1, 1, by decide +kernel, by decide +kernel, .inr rfl⟩
    obtain ⟨a, b, ha, hb, hc⟩ := ix1
    have at1 : atI ((wF m S).map iV) ((i : Nat) : Int) = some (iV a) := atI_nat (by rw [List.getElem?_map, ha]; rfl)
    have at2 : atI ((wF m S).map iV) (Builtin.bitXor (((2 ^ m - 1 : Nat)) : Int) ((i : Nat) : Int)) = some (iV b) := by
      rw [bxor_nat]
      exact atI_nat (by rw [List.getElem?_map, hb]; rfl)
    refine ⟨_, rfl, _, rfl, _, rfl, _, rfl, _, _, rfl, rfl, _, rfl, _, rfl, me, _, _, _, rfl, rfl, SqL.of hme, at1, _, rfl, _, rfl, _, rfl, _, _, rfl, rfl, me, _, _, _, rfl, rfl, SqL.of hme, at2, _, _, rfl, rfl, ?_⟩
    refine ⟨p, S, i, (2 ^ m - 1) ^^^ i, a + b, ?_, hS1, hc, false, rfl, iteF ⟨rfl, _, rfl⟩⟩
    show [V.ref p, V.int (i : Nat), V.int (Builtin.bitXor (((2 ^ m - 1 : Nat)) : Int) ((i : Nat) : Int)), V.int ((a : Int) + (b : Int))] = _
    rw [bxor_nat, ← Int.natCast_add]
  · rintro σ H' ⟨rfl, x4, rfl⟩
    exact q _ e1
theorem scKind : FnScope ["steps", "many"] ["steps", "many"] (defScope sKind) := ⟨rfl, rfl, rfl, by decide +kernel, rfl, by decide +kernel, by decide +kernel⟩
theorem ok_kind (F : Fun K "kind_of" "kind_of" sKind f fd) (ml : mg "len" = none) : FnOk P w K mg base CX0 1 f fd ["steps", "many"] spKind := by
  refine F.ok scKind (fun vs H Q E h => ?_) (fun cdv A outer s H vs Q E hr h => ?_)
  · obtain ⟨p, m, S, rfl, _⟩ := h
    rfl
  obtain ⟨p, m, S, rfl, cs, hS, q⟩ := h
  refine ⟨_, pss_cons (ps_if (pt_cmpR op_eq (pv 1) pe_int (nomark _)) (pss_one (ps_ret (pe_ifExp (pt_truth (pv 0) (fun _ => rfl)) pe_str pe_str))) pss_nil)
    (pss_cons (ps_if (pt_cmpR op_eq (pe_callB call_len_seq rfl ml PySem.boot_len (pa_cons (pv 0) pa_nil)) pe_int (nomark _)) (pss_one (ps_ret pe_str)) pss_nil) pss_never), ?_⟩
  try dsimp only [Cx.wish, cxOf]
  rcases cs with ⟨rfl, rfl⟩ | ⟨rfl, rfl⟩ | ⟨rfl, rfl⟩
  · refine ⟨_, rfl, rfl, _, rfl, ite2 (fun c => ?_) (fun c => absurd (by decide +kernel) c)⟩
    exact ⟨_, rfl, _, .inl ⟨_, SqL.of hS, rfl⟩, iteF q⟩
  · refine ⟨_, rfl, rfl, _, rfl, ite2 (fun c => ?_) (fun c => absurd (by decide +kernel) c)⟩
    exact ⟨_, rfl, _, .inl ⟨_, SqL.of hS, rfl⟩, iteT q⟩
  · refine ⟨_, rfl, rfl, _, rfl, ite2 (fun c => absurd c (by decide +kernel)) (fun c => ?_)⟩
    refine ⟨_, rfl, p, _, rfl, .inl (SqL.of hS), rfl, _, rfl, ite2 (fun c => q) (fun c => absurd (by decide +kernel) c)⟩
abbrev paN : List Str := ["steps", "groups", "own", "some", "inner", "outer"]
theorem scParted : FnScope paN ["steps", "groups"] (defScope sParted) := ⟨rfl, rfl, rfl, by decide +kernel, rfl, by decide +kernel, by decide +kernel⟩
set_option maxHeartbeats 4000000 in
theorem ok_parted (F : Fun K "parted" "parted" sParted f fd) (G1 : FnOk P w K mg base CX0 3 f1 fd1 ["steps", "groups"] spShare) (bG1 : Binds K fd1 ["steps", "groups"] []) (kG1 : PySem.W.keepIn K (.ref f1) = true) (mG1 : mg "share_masks" = some (.ref f1))
    (G2 : FnOk P w K mg base CX0 4 f2 fd2 ["steps", "many"] spFirst) (bG2 : Binds K fd2 ["steps", "many"] []) (kG2 : PySem.W.keepIn K (.ref f2) = true) (mG2 : mg "first_parting" = some (.ref f2))
    (G3 : FnOk P w K mg base CX0 1 f3 fd3 ["steps", "many"] spKind) (bG3 : Binds K fd3 ["steps", "many"] []) (kG3 : PySem.W.keepIn K (.ref f3) = true) (mG3 : mg "kind_of" = some (.ref f3)) (ml : mg "len" = none) : FnOk P w K mg base CX0 5 f fd ["steps", "groups"] spParted := by
  refine F.ok scParted (fun vs H Q E h => ?_) (fun cdv A outer s H vs Q E hr h => ?_)
  · obtain ⟨p, g, m, S, rfl, _⟩ := h
    rfl
  obtain ⟨p, g, m, S, rfl, cs, hp, hg, q⟩ := h
  have hr3 := hr.mono (j := 3) (by decide)
  have hr1 := hr.mono (j := 1) (by decide)
  refine ⟨_, pss_cons (ps_set (i := 2) scParted.nd rfl (Or.inl rfl) (pe_call G1 hr3 rfl mG1 kG1 bG1 .nil pass0 (pa_cons (pv 0) (pa_cons (pv 1) pa_nil))))
    (pss_cons (ps_set (i := 3) scParted.nd rfl (Or.inl rfl) (pe_call G2 hr rfl mG2 kG2 bG2 .nil pass0 (pa_cons (pv 2) (pa_cons (pe_callB call_len_seq rfl ml PySem.boot_len (pa_cons (pv 1) pa_nil)) pa_nil))))
    (pss_cons (ps_if (pt_cmpR op_eq (pv 3) pe_int (nomark _)) (pss_one (ps_ret (pe_lst (pa_cons (pe_tup (pa_cons (pe_call G3 hr1 rfl mG3 kG3 bG3 .nil pass0 (pa_cons (pv 2) (pa_cons (pe_callB call_len_seq rfl ml PySem.boot_len (pa_cons (pv 1) pa_nil)) pa_nil))) (pa_cons (pv 1) pa_nil))) pa_nil)))) pss_nil) pss_never)), ?_⟩
  try dsimp only [Cx.wish, cxOf]
  have lg : (((Gs m).map iV).length : Int) = ((m : Nat) : Int) := by rw [List.length_map, Gs_len cs.m12]
  refine ⟨_, rfl, _, rfl, p, g, m, S, rfl, cs, hp, hg, fun ow H1 e1 ow0 how => ?_⟩
  refine ⟨_, rfl, _, rfl, g, _, rfl, .inl (SqL.of (e1 _ _ hg)), ?_⟩
  rw [lg]
  refine ⟨ow, m, S, rfl, cs, how, fun H2 e2 => ?_⟩
  have E2 := e1.trans e2
  refine ⟨_, rfl, rfl, _, rfl, iteT ?_⟩
  refine ⟨_, rfl, _, rfl, g, _, rfl, .inl (SqL.of (E2 _ _ hg)), ?_⟩
  rw [lg]
  refine ⟨ow, m, S, rfl, cs, e2 _ _ how, _, rfl, (by show 2 ≤ sizeLine; decide), fun T hT => ⟨(by show 1 ≤ sizeLine; decide), fun L hL => ?_⟩⟩
  have n1 := Ext.new hT (.tup [V.str (kiF m S), V.ref g])
  have n2 := Ext.new hL (.lst [V.ref T])
  exact q L T _ (E2.trans (n1.trans n2)) ((E2.trans n1).none hL) upd_same (n2 _ _ upd_same)
abbrev joN : List Str := ["found", "whole", "told", "kind", "groups", "mates", "mate"]
theorem scJoined : FnScope joN ["found", "whole"] (defScope sJoined) := ⟨rfl, rfl, rfl, by decide +kernel, rfl, by decide +kernel, by decide +kernel⟩
set_option maxHeartbeats 4000000 in
theorem ok_joined (F : Fun K "joined" "joined" sJoined f fd) : FnOk P w K mg base CX0 1 f fd ["found", "whole"] spJoined := by
  refine F.ok scJoined (fun vs H Q E h => ?_) (fun cdv A outer s H vs Q E hr h => ?_)
  · obtain ⟨fo, T, g, k, wh, rfl, _⟩ := h
    rfl
  obtain ⟨fo, T, g, k, wh, rfl, hfo, hT, q⟩ := h
  refine ⟨_, pss_cons (ps_set (i := 2) scJoined.nd rfl (Or.inl rfl) (pe_lst pa_nil))
    (pss_cons (ps_for PassesOwn.never rfl (pi_list (pv 0)) (pg_tup rfl (pgs_cons (pg_name (i := 3) scJoined.nd rfl (Or.inr rfl)) (pgs_cons (pg_name (i := 4) scJoined.nd rfl (Or.inr rfl)) pgs_nil)))
      (pss_cons (ps_set (i := 5) scJoined.nd rfl (Or.inr rfl) (pe_lc (N := joN) (sc := defScope sJoined) (N' := ["part", "kind", "groups", "whole"]) (sub := [none, some 3, some 4, some 1]) rfl rfl (CmpOk.of (by decide +kernel)) rfl (pi_list (pv 2))
          (fun C s H fp => ⟨pg_name (i := 0) (by show (["part", "kind", "groups", "whole"] : List Str).Nodup; decide) rfl (Or.inl rfl), pts_one pt_nev, pv 0⟩)))
      (pss_cons (ps_lc (i := 2) (N := joN) (sc := defScope sJoined) (N' := ["part", "mates"]) (sub := [none, some 5]) rfl rfl (CmpOk.of (by decide +kernel)) rfl (pi_list (pv 2))
          (fun C s H fp => ⟨pg_name (i := 0) (by show (["part", "mates"] : List Str).Nodup; decide) rfl (Or.inl rfl), pts_one pt_nev, pv 0⟩) scJoined.nd rfl (Or.inl rfl))
      (pss_cons (ps_for PassesOwn.never rfl (pi_list (pv 5)) (pg_name (i := 6) scJoined.nd rfl (Or.inl rfl)) (pss_one ps_never))
      (pss_one (ps_expr (pe_bm PySem.F.plainAttrs_list PySem.F.slot_list_append PySem.F.type_list_append mt_append (pv 2) (pa_cons (pe_tup (pa_cons (pv 3) (pa_cons (pv 4) pa_nil))) pa_nil))))))))
    (pss_one (ps_ret (pv 2)))), ?_⟩
  try dsimp only [Cx.wish, cxOf]
  refine ⟨Nat.zero_le _, fun t0 ht0 => ?_⟩
  have X0 := Ext.new ht0 (.lst [])
  refine ⟨_, rfl, fo, rfl, ⟨_, SqL.of (X0 _ _ hfo)⟩, ?_⟩
  refine for_list (xs := [V.ref T]) (fun i σ H' => ∃ (to : Addr) (x3 x4 x5 x6 : Option V), σ = [some (.ref fo), some (.int wh), some (.ref to), x3, x4, x5, x6] ∧ Ext H H' ∧ H to = none ∧ ((i = 0 ∧ H' to = some (.lst [])) ∨ (i = 1 ∧ ∃ T', H' to = some (.lst [.ref T']) ∧ H' T' = some (.tup [.str k, .ref g])))) ⟨t0, _, _, _, _, rfl, X0, ht0, .inl ⟨rfl, upd_same⟩⟩ (fun i σ H' _ h => by obtain ⟨_, _, _, _, _, _, e, _⟩ := h; exact SqL.of (e _ _ hfo)) ?_ ?_
  · rintro i x σ H' hx ⟨to, x3, x4, x5, x6, rfl, e, to0, hc⟩
    have hi : i < 1 := at_lt hx
    have i0 : i = 0 := by omega
    subst i0
    cases (Option.some.inj hx)
    have hto : H' to = some (.lst []) := by
      rcases hc with ⟨_, z⟩ | ⟨z, _⟩
      · exact z
      · cases z
    refine ⟨T, _, rfl, SqT.of (e _ _ hT), rfl, _, _, rfl, _, _, rfl, rfl, ?_⟩
    refine ⟨_, rfl, to, rfl, ⟨_, SqL.of hto⟩, ?_⟩
    refine turns_list (xs := []) (fun j ys H2 => H' = H2 ∧ ys = []) ⟨rfl, rfl⟩ (fun j ys H2 _ h => by rw [← h.1]; exact SqL.of hto) (fun j v ys H2 hx _ => by cases hx) ?_
    rintro ys H2 ⟨rfl, rfl⟩ ma hma
    have n1 := Ext.new hma (.lst [])
    refine ⟨_, rfl, to, rfl, ⟨_, SqL.of (n1 _ _ hto)⟩, ?_⟩
    refine turns_list (xs := []) (fun j ys H2 => upd H' ma (.lst []) = H2 ∧ ys = []) ⟨rfl, rfl⟩ (fun j ys H2 _ h => by rw [← h.1]; exact SqL.of (n1 _ _ hto)) (fun j v ys H2 hx _ => by cases hx) ?_
    rintro ys H2 ⟨rfl, rfl⟩ t1 ht1
    have n2 := Ext.new ht1 (.lst [])
    refine ⟨_, rfl, ma, rfl, ⟨_, SqL.of (n2 _ _ upd_same)⟩, ?_⟩
    refine for_list (xs := []) (fun j σ H3 => upd (upd H' ma (.lst [])) t1 (.lst []) = H3 ∧ σ = [some (.ref fo), some (.int wh), some (.ref t1), some (.str k), some (.ref g), some (.ref ma), x6]) ⟨rfl, rfl⟩ (fun j σ H3 _ h => by rw [← h.1]; exact SqL.of (n2 _ _ upd_same)) (fun j v σ H3 hx _ => by cases hx) ?_
    rintro σ H3 ⟨rfl, rfl⟩
    have E2 := e.trans (n1.trans n2)
    refine ⟨_, rfl, .inl ⟨rfl, _, SqL.of upd_same⟩, _, rfl, _, rfl, (by show 2 ≤ sizeLine; decide), fun T' hT' => ?_⟩
    have n3 := Ext.new hT' (.tup [V.str k, V.ref g])
    have tT : T' ≠ t1 := fun z => by rw [z, upd_same] at hT'; cases hT'
    refine ⟨t1, [], _, rfl, rfl, n3 _ _ upd_same, (by show 1 ≤ sizeLine; decide), ?_⟩
    exact ⟨t1, _, _, _, _, rfl, (E2.trans n3).over ((e.trans n1).none ht1) _, (e.trans n1).none ht1, .inr ⟨rfl, T', upd_same, by rw [upd_ne tT]; exact upd_same⟩⟩
  · rintro σ H' ⟨to, x3, x4, x5, x6, rfl, e, to0, hc⟩
    rcases hc with ⟨z, _⟩ | ⟨_, T', h1, h2⟩
    · cases z
    · exact ⟨_, rfl, q to T' H' e to0 h1 h2⟩
end
end My
namespace L2
open PySem PySem.Spec PyProof.Rows
section
variable {Q : List V → Hp → Prop} {H1 : Hp} {σ0 : St} {g : TG} {tt : TT} {te : TE}
theorem turns_rangeD {hi : Int} {n : Nat} (Pv : Nat → List V → Hp → Prop) (h0 : Pv 0 [] H1)
    (hs : ∀ i ys H, i < n → Pv i ys H → g (.int (hi - i)) σ0 H fun σ2 H2 => Sle σ0 σ2 ∧ tt σ2 H2 fun b H3 => if b = true then te σ2 H3 (fun v H4 => ys.length < sizeLine ∧ Nxt n i Pv (ys ++ [v]) H4) else Nxt n i Pv ys H3)
    (hd : ∀ ys H, Pv n ys H → Q ys H) : cTurns (Itd hi n) σ0 g tt te Q H1 := by
  refine ⟨fun i m ys H => m = n - i ∧ i ≤ n ∧ Pv i ys H, ⟨n, by simp, Nat.zero_le _, h0⟩, ?_⟩
  rintro i m ys H ⟨rfl, hi, p⟩
  by_cases hlt : i < n
  · refine .inr ⟨hlt, fun x H' y => ?_⟩
    obtain ⟨e, y⟩ := y
    subst e y
    exact hs i ys _ hlt p
  · have e : i = n := by omega
    subst e
    exact .inl ⟨Nat.le_refl _, hd ys H p⟩
end
end L2
namespace My
open PySem L2
def lpP : Pos := match (defBody sParts).getD 4 (.Pass ⟨0, 0, 0, 0⟩) with
  | .Return (some (.Call _ _ [⟨_, .Lambda _ _ _ p, _⟩] _)) _ => p
  | _ => ⟨0, 0, 0, 0⟩
abbrev qL : Str := ("parts" : Str) ++ ".<locals>." ++ "<lambda>"
theorem Ext.toB {P : Addr} {H H' : Hp} (e : Ext H H') : ExtB P H H' := fun b o _ h => e b o h
theorem _root_.L2.ExtB.trans {P : Addr} {H H1 H2 : Hp} (a : ExtB P H H1) (b : ExtB P H1 H2) : ExtB P H H2 := fun c o n h => b c o n (a c o n h)
theorem TabW.extE {H H' : Hp} {P : Addr} {lpos : Pos} {q : Str} (h : TabW H P lpos q) (e : Ext H H') : TabW H' P lpos q := h.ext e
theorem TabW.tb {H : Hp} {P : Addr} {lpos : Pos} {q : Str} (h : TabW H P lpos q) : ∃ ps, H P = some (.tbl ps) := by
  rcases h with h | ⟨c, h, _⟩
  · exact ⟨_, h⟩
  · exact ⟨_, h⟩
structure GRows (H H' : Hp) (G : Addr) (gs : List Addr) (rows : List (List Str)) : Prop where
  g : H' G = some (.lst (gs.map V.ref))
  g0 : H G = none
  rs : Paired (fun a r => LsS H' a r ∧ H a = none) gs rows
  nd : gs.Nodup
def spParts (Pt : Addr) : Sp := fun vs H Q _ => ∃ (T : Addr) (names : List Str) (rows : List (List Str)) (m : Nat) (S : List Nat), vs = [.ref T] ∧ TabIn H T names rows ∧ rows.length ≤ 24 ∧ names.length = m ∧ Cs m S ∧ red (rows.map (maskF names)) = S ∧ TabW H Pt lpP qL ∧
  ∀ (L T' G : Addr) (gs : List Addr) H', ExtB Pt H H' → H L = none → H T' = none → H' L = some (.lst [.ref T']) → H' T' = some (.tup [.str (kiF m S), .ref G]) → GRows H H' G gs ((Gs m).map (rowM names)) → TabW H' Pt lpP qL → Q (.ref L) H'
theorem perm_le1 {M S : List Nat} {m : Nat} (c : Cs m S) (p : M.Perm S) : M = S := by
  rcases c with ⟨rfl, rfl⟩ | ⟨rfl, rfl⟩ | ⟨rfl, rfl⟩
  · exact List.Perm.eq_nil p
  · exact List.perm_singleton.mp p
  · exact List.perm_singleton.mp p
section
variable {P : Program} {w : World} {K : PySem.W.Frag} {mg : Str → Option Value} {base : Heap} {f f1 f2 f3 f4 c Pt : Addr} {fd fd1 fd2 fd3 fd4 : FuncData}
abbrev prN : List Str := ["table", "names", "singles", "found", "told"]
theorem scParts : FnScope prN ["table"] (defScope sParts) := ⟨rfl, rfl, rfl, by decide +kernel, rfl, by decide +kernel, by decide +kernel⟩
set_option maxHeartbeats 8000000 in
theorem ok_parts (F : Fun K "parts" "parts" sParts f fd) (hcode : fd.code = .ref c) (hC : PySem.W.CodeHd base c Pt) (hB : base.BuiltinsAt mg Pt)
    (G1 : FnOk P w K mg base CX0 1 f1 fd1 ["found", "whole"] spJoined) (bG1 : Binds K fd1 ["found", "whole"] []) (kG1 : PySem.W.keepIn K (.ref f1) = true) (mG1 : mg "joined" = some (.ref f1))
    (G2 : FnOk P w K mg base CX0 5 f2 fd2 ["steps", "groups"] spParted) (bG2 : Binds K fd2 ["steps", "groups"] []) (kG2 : PySem.W.keepIn K (.ref f2) = true) (mG2 : mg "parted" = some (.ref f2))
    (G3 : FnOk P w K mg base CX0 3 f3 fd3 ["table"] spStepM) (bG3 : Binds K fd3 ["table"] []) (kG3 : PySem.W.keepIn K (.ref f3) = true) (mG3 : mg "step_masks" = some (.ref f3))
    (G4 : FnOk P w K mg base CX0 1 f4 fd4 ["names", "mask"] spRowOf) (bG4 : Binds K fd4 ["names", "mask"] []) (kG4 : PySem.W.keepIn K (.ref f4) = true) (mG4 : mg "row_of" = some (.ref f4))
    (ml : mg "len" = none) (mr : mg "range" = none) (mrv : mg "reversed" = none) (mso : mg "sorted" = none) : FnOk P w K mg base CX0 6 f fd ["table"] (spParts Pt) := by
  refine F.okC scParts (fun vs H Q E h => ?_) (fun A outer s H vs Q E hr h => ?_)
  · obtain ⟨T, names, rows, m, S, rfl, _⟩ := h
    rfl
  obtain ⟨T, names, rows, m, S, rfl, ti, lr, nm, cs, hred, tw, q⟩ := h
  have hr1 := hr.mono (j := 1) (by decide)
  have hr2 := hr.mono (j := 2) (by decide)
  have hr3 := hr.mono (j := 3) (by decide)
  have hr5 := hr.mono (j := 5) (by decide)
  have L : LamAt ((cxOf CX0 P w K mg base prN "parts" (defScope sParts) f fd.code A outer s H E).nox) c Pt := ⟨hcode, hC, hB⟩
  refine ⟨_, pss_cons (ps_set (i := 1) scParts.nd rfl (Or.inr rfl) (pe_ix ix_tup (pv 0) pe_int (fun _ _ => rfl)))
    (pss_cons (ps_lc (i := 2) (N := prN) (sc := defScope sParts) (N' := ["place"]) (sub := [none]) rfl rfl (CmpOk.of (by decide +kernel)) rfl (pi_rev rfl mrv (pa_cons (pe_callTy call_range1' rfl mr (by decide +kernel) (pa_cons (pe_callB call_len_seq rfl ml PySem.boot_len (pa_cons (pv 1) pa_nil)) pa_nil)) pa_nil))
        (fun C s H fp => ⟨pg_name (i := 0) (by show (["place"] : List Str).Nodup; decide) rfl (Or.inl rfl), pts_nil, pe_op op_shl pe_int (pv 0)⟩) scParts.nd rfl (Or.inl rfl))
    (pss_cons (ps_set (i := 3) scParts.nd rfl (Or.inl rfl) (pe_call G1 hr1 rfl mG1 kG1 bG1 .nil pass0 (pa_cons (pe_call G2 hr rfl mG2 kG2 bG2 .nil pass0 (pa_cons (pe_call G3 hr3 rfl mG3 kG3 bG3 .nil pass0 (pa_cons (pv 0) pa_nil)) (pa_cons (pv 2) pa_nil))) (pa_cons (pe_op op_sub (pe_op op_shl pe_int (pe_callB call_len_seq rfl ml PySem.boot_len (pa_cons (pv 1) pa_nil))) pe_int) pa_nil))))
    (pss_cons (ps_lc (i := 4) (N := prN) (sc := defScope sParts) (N' := ["kind", "groups", "names"]) (sub := [none, none, some 1]) rfl rfl (CmpOk.of (by decide +kernel)) rfl (pi_list (pv 3))
        (fun C s H fp => ⟨(show PG _ _ (gTup K 2 _) from pg_tup rfl (pgs_cons (pg_name (i := 0) (by show (["kind", "groups", "names"] : List Str).Nodup; decide) rfl (Or.inl rfl)) (pgs_cons (pg_name (i := 1) (by show (["kind", "groups", "names"] : List Str).Nodup; decide) rfl (Or.inl rfl)) pgs_nil))), pts_nil,
          pe_tup (pa_cons (pv 0) (pa_cons (pe_lc (N := ["kind", "groups", "names"]) (sc := relab _ (defScope sParts)) (N' := ["group", "names"]) (sub := [none, some 2]) rfl rfl (CmpOk.of (by decide +kernel)) rfl (show PI _ _ _ (iList K (tVar 1)) from pi_list (pv 1))
            (fun C s H fp => ⟨pg_name (i := 0) (by show (["group", "names"] : List Str).Nodup; decide) rfl (Or.inl rfl), pts_nil, pe_call G4 hr1 rfl mG4 kG4 bG4 .nil pass0 (pa_cons (pv 1) (pa_cons (pv 0) pa_nil))⟩)) pa_nil))⟩) scParts.nd rfl (Or.inl rfl))
    (pss_one (ps_ret (pe_sortLam1 (k := 0) (x := "part") (te := tOp (rIxT K) (tVar 0) (tC (.int 1))) L hr2 rfl mso (pa_cons (pv 4) pa_nil) ⟨rfl, rfl, rfl, by decide +kernel, rfl, by decide +kernel, by decide +kernel⟩ rfl rfl (fun _ _ _ _ _ _ => rfl) (fun _ _ _ _ _ _ => pe_ix (show IxR _ (rIxT K) from ix_tup) (pv 0) pe_int (fun _ _ => rfl)))))))), ?_⟩
  try dsimp only [Cx.wish, cxOf]
  obtain ⟨ta, tb, hT, hn, hb⟩ := id ti
  have m12 := cs.m12
  have lg := Gs_len m12
  refine ⟨_, rfl, T, _, _, _, rfl, rfl, SqT.of hT, (by exact atI_nat (j := 0) rfl), ?_⟩
  have lnm : ((names.map V.str).length : Nat) = m := by rw [List.length_map]; exact nm
  refine ⟨_, rfl, ta, _, rfl, .inl (SqL.of hn), _, rfl, Int.natCast_nonneg _, by rw [lnm]; omega, fun rg hrg => ?_⟩
  have n1 := Ext.new hrg (.rng 0 ((names.map V.str).length : Int))
  refine ⟨rg, (names.map V.str).length, rfl, upd_same, by rw [lnm]; exact m12, ?_⟩
  rw [lnm]
  refine turns_rangeD (hi := ((m : Nat) : Int) - 1) (n := m) (fun i ys H2 => upd H rg (.rng 0 ((m : Nat) : Int)) = H2 ∧ ys = ((Gs m).take i).map iV) ⟨rfl, rfl⟩ ?_ ?_
  · rintro i ys H2 hi ⟨rfl, rfl⟩
    have hi' : i < (Gs m).length := by rw [lg]; exact hi
    refine ⟨Sle.set _ (Sle.refl _) (fun u z => by cases z), iteT (B := False) ⟨_, rfl, _, _, rfl, rfl, ⟨by omega, by omega, by decide⟩, by rw [List.length_map, List.length_take]; exact small1000 (by omega), nxt hi ⟨rfl, ?_⟩⟩⟩
    rw [take_snoc (List.getElem?_eq_getElem hi'), List.map_append]
    show _ = _ ++ [iV (Gs m)[i]]
    have e : (1 : Int) * 2 ^ (((m : Nat) : Int) - 1 - (i : Nat)).toNat = (((Gs m)[i] : Nat) : Int) := by
      rcases m12 with rfl | rfl
      · have : i = 0 := by omega
        subst this; rfl
      · rcases (show i = 0 ∨ i = 1 by omega) with rfl | rfl
        · rfl
        · rfl
    rw [show iV (Gs m)[i] = V.int ((1 : Int) * 2 ^ (((m : Nat) : Int) - 1 - (i : Nat)).toNat) from congrArg V.int e.symm]
  · rintro ys H2 ⟨rfl, rfl⟩ si hsi
    rw [show (Gs m).take m = Gs m from List.take_of_length_le (by rw [lg]; exact Nat.le_refl _)]
    rw [lnm] at n1
    have n2 := n1.trans (Ext.new hsi (.lst ((Gs m).map iV)))
    have hsi' : upd (upd H rg (.rng 0 ((m : Nat) : Int))) si (.lst ((Gs m).map iV)) si = some (.lst ((Gs m).map iV)) := upd_same
    revert n2 hsi'
    generalize upd (upd H rg (.rng 0 ((m : Nat) : Int))) si (.lst ((Gs m).map iV)) = H2
    intro n2 hsi'
    refine ⟨_, rfl, T, names, rows, rfl, ti.ext n2, lr, fun st M H3 e3 st0 hM pM dM => ?_⟩
    have E3 := n2.trans e3
    rw [hred] at pM
    have eM := perm_le1 cs pM
    rw [eM] at hM
    refine ⟨_, rfl, st, si, m, S, rfl, cs, hM, e3 _ _ hsi', fun L1 T1 H4 e4 L10 hL1 hT1 => ?_⟩
    have E4 := E3.trans e4
    refine ⟨_, rfl, ta, _, rfl, .inl (SqL.of (E4 _ _ hn)), _, _, rfl, rfl, ⟨by rw [lnm]; omega, by rw [lnm]; omega, by decide⟩, _, _, rfl, rfl, ?_⟩
    refine ⟨L1, T1, si, kiF m S, _, rfl, hL1, hT1, fun L2 T2 H5 e5 L20 hL2 hT2 => ?_⟩
    have E5 := E4.trans e5
    have hsi5 : LsN H5 si (Gs m) := e5 _ _ (e4 _ _ (e3 _ _ hsi'))
    refine ⟨_, rfl, L2, rfl, ⟨_, SqL.of hL2⟩, ?_⟩
    refine turns_list (xs := [V.ref T2]) (fun i ys H6 => Ext H5 H6 ∧ ((i = 0 ∧ ys = []) ∨ (i = 1 ∧ ∃ (T' G : Addr) (gs : List Addr), ys = [.ref T'] ∧ H T' = none ∧ H6 T' = some (.tup [.str (kiF m S), .ref G]) ∧ GRows H H6 G gs ((Gs m).map (rowM names))))) ⟨Ext.refl _, .inl ⟨rfl, rfl⟩⟩ (fun i ys H6 _ h => SqL.of (h.1 _ _ hL2)) ?_ ?_
    · rintro i x ys H6 hx ⟨e6, hc⟩
      have i0 : i = 0 := by have := at_lt hx; simp at this; omega
      subst i0
      cases (Option.some.inj hx)
      obtain rfl : ys = [] := by
        rcases hc with ⟨_, z⟩ | ⟨z, _⟩
        · exact z
        · cases z
      refine ⟨T2, _, rfl, SqT.of (e6 _ _ hT2), rfl, _, _, rfl, _, _, rfl, rfl, ?_⟩
      refine ⟨Sle.set _ (Sle.set _ (Sle.refl _) (fun u z => by cases z)) (fun u z => by cases z), iteT (B := False) ?_⟩
      refine ⟨_, rfl, _, rfl, si, rfl, ⟨_, SqL.of (e6 _ _ hsi5)⟩, ?_⟩
      refine turns_list (xs := (Gs m).map iV) (fun j ys H7 => Ext H6 H7 ∧ ∃ gs : List Addr, ys = gs.map V.ref ∧ Paired (fun a r => LsS H7 a r ∧ H a = none) gs (((Gs m).take j).map (rowM names)) ∧ gs.Nodup) ⟨Ext.refl _, [], rfl, .nil, List.nodup_nil⟩ (fun j ys H7 _ h => SqL.of (h.1 _ _ (e6 _ _ hsi5))) ?_ ?_
      · rintro j v ys H7 hy ⟨e7, gs, rfl, pg, nd⟩
        obtain ⟨x, rfl, hx'⟩ := iv_get hy
        have hj := at_lt hx'
        have lgs := pg.length
        rw [List.length_map, List.length_take] at lgs
        have E7 := E5.trans (e6.trans e7)
        refine ⟨Sle.set _ (Sle.refl _) (fun u z => by cases z), iteT (B := False) ⟨_, rfl, _, rfl, ta, names, x, rfl, E7 _ _ hn, by omega, fun r H8 e8 r0 h8 => ⟨by rw [List.length_map]; exact small1000 (by omega), nxt (at_lt hy) ⟨e7.trans e8, gs ++ [r], by rw [List.map_append]; rfl, ?_, ?_⟩⟩⟩⟩
        · rw [take_snoc hx', List.map_append]
          exact Paired.snoc (Paired.mapP pg fun a t z => ⟨e8 _ _ z.1, z.2⟩) ⟨h8, E7.none r0⟩
        · rw [List.nodup_append]
          refine ⟨nd, by simp, fun a ha b hb => ?_⟩
          rw [List.mem_singleton] at hb
          obtain ⟨t, _, z, _⟩ := paired_memA pg a ha
          rw [hb]
          exact ne_of_none z r0
      · rintro ys H7 ⟨e7, gs, rfl, pg, nd⟩ G hG
        rw [List.length_map, show (Gs m).take (Gs m).length = Gs m from List.take_of_length_le (Nat.le_refl _)] at pg
        have E7 := E5.trans (e6.trans e7)
        have n8 := Ext.new hG (.lst (gs.map V.ref))
        refine ⟨(by show 2 ≤ sizeLine; decide), fun T' hT' => ?_⟩
        have n9 := Ext.new hT' (.tup [V.str (kiF m S), V.ref G])
        refine ⟨by show 0 < sizeLine; decide, nxt (by show 0 < 1; decide) ⟨e6.trans (e7.trans (n8.trans n9)), .inr ⟨rfl, T', G, gs, rfl, (E7.trans n8).none hT', upd_same, ⟨n9 _ _ upd_same, E7.none hG, Paired.mapP pg fun a t z => ⟨(n8.trans n9) _ _ z.1, z.2⟩, nd⟩⟩⟩⟩
    · rintro ys H6 ⟨e6, hc⟩ to hto
      obtain ⟨T', G, gs, rfl, T'0, hT', gr⟩ : ∃ (T' G : Addr) (gs : List Addr), ys = [.ref T'] ∧ H T' = none ∧ H6 T' = some (.tup [.str (kiF m S), .ref G]) ∧ GRows H H6 G gs ((Gs m).map (rowM names)) := by
        rcases hc with ⟨z, _⟩ | ⟨_, z⟩
        · cases z
        · exact z
      have n7 := Ext.new hto (.lst [V.ref T'])
      have E7 := E5.trans (e6.trans n7)
      have tw7 := My.TabW.extE tw E7
      refine ⟨_, rfl, to, .ref T', rfl, SqL.of upd_same, tw7, fun H8 eB => ?_, fun r H8 r0 eB hr8 tw8 => ?_⟩
      · obtain ⟨ps, hP⟩ := My.TabW.tb tw7
        exact ⟨_, rfl, T', _, _, _, rfl, rfl, SqT.of (eB _ _ (ne_of (n7 _ _ hT') hP (fun y => by cases y)) (n7 _ _ hT')), (by exact atI_nat (j := 1) rfl), rfl⟩
      · obtain ⟨ps, hP⟩ := My.TabW.tb tw7
        have ne : ∀ {a : Addr} {o : HO}, H6 a = some o → (∀ ps, o ≠ .tbl ps) → H8 a = some o := fun {a o} h n => eB _ _ (fun z => by
          have := n7 _ _ h
          rw [z, hP] at this
          exact n _ (Option.some.inj this).symm) (n7 _ _ h)
        refine q r T' G gs H8 (E7.toB.trans eB) (E7.none r0) T'0 hr8 (ne hT' (fun _ z => by cases z)) ⟨ne gr.g (fun _ z => by cases z), gr.g0, Paired.mapP gr.rs fun a t z => ⟨ne z.1 (fun _ y => by cases y), z.2⟩, gr.nd⟩ tw8
end
end My
namespace L2
open PySem PySem.Spec PyProof.Rows
theorem PE.imp {X : Cx} {e : Expr} {t t' : TE} (h : PE X e t) (i : ∀ σ H Q, t' σ H Q → t σ H Q) : PE X e t' := fun pins s σ H Q I hw => h pins s σ H Q I (i σ H Q hw)
theorem PA.imp {X : Cx} {es : List Expr} {t t' : TA} (h : PA X es t) (i : ∀ σ H Q, t' σ H Q → t σ H Q) : PA X es t' := fun pos pins s σ H Q I hw => h pos pins s σ H Q I (i σ H Q hw)
theorem PS.imp {X : Cx} {st : Stmt} {t t' : TS} (h : PS X st t) (i : ∀ D σ H, t' D σ H → t D σ H) : PS X st t' := fun pins s σ H D I hw => h pins s σ H D I (i D σ H hw)
structure PAx (X : Cx) (es : List Expr) (t : TA) : Prop where
  h : PA X es t
structure PEx (X : Cx) (e : Expr) (t : TE) : Prop where
  h : PE X e t
end L2
namespace My
open PySem L2
mutual
inductive Dh (H : Hp) : V → PyData → Prop
  | non : Dh H .non .none
  | bl (b : Bool) : Dh H (.bl b) (.bool b)
  | int (i : Int) : Dh H (.int i) (.int i)
  | str (x : Str) : Dh H (.str x) (.str x)
  | lst {a : Addr} {xs : List V} {ds : List PyData} : H a = some (.lst xs) → Dhs H xs ds → Dh H (.ref a) (.list ds)
  | tup {a : Addr} {xs : List V} {ds : List PyData} : H a = some (.tup xs) → Dhs H xs ds → Dh H (.ref a) (.tuple ds)
inductive Dhs (H : Hp) : List V → List PyData → Prop
  | nil : Dhs H [] []
  | cons {v : V} {d : PyData} {vs : List V} {ds : List PyData} : Dh H v d → Dhs H vs ds → Dhs H (v :: vs) (d :: ds)
end
mutual
theorem Dh.ext {H H' : Hp} (e : Ext H H') : ∀ {v : V} {D : PyData}, Dh H v D → Dh H' v D
  | _, _, .non => .non
  | _, _, .bl b => .bl b
  | _, _, .int i => .int i
  | _, _, .str x => .str x
  | _, _, .lst hq hd => .lst (e _ _ hq) (Dhs.ext e hd)
  | _, _, .tup hq hd => .tup (e _ _ hq) (Dhs.ext e hd)
theorem Dhs.ext {H H' : Hp} (e : Ext H H') : ∀ {vs : List V} {Ds : List PyData}, Dhs H vs Ds → Dhs H' vs Ds
  | _, _, .nil => .nil
  | _, _, .cons h t => .cons (Dh.ext e h) (Dhs.ext e t)
end
mutual
theorem Dh.dr {K : PySem.W.Frag} {H : Hp} : ∀ {v : V} {D : PyData}, Dh H v D → DR K H v D
  | _, _, .non => .non
  | _, _, .bl b => .bl b
  | _, _, .int i => .int i
  | _, _, .str x => .str x
  | _, _, .lst hq hd => .lst (SqL.of hq) (Dhs.dr hd)
  | _, _, .tup hq hd => .tup (SqT.of hq) (Dhs.dr hd)
theorem Dhs.dr {K : PySem.W.Frag} {H : Hp} : ∀ {vs : List V} {Ds : List PyData}, Dhs H vs Ds → DRs K H vs Ds
  | _, _, .nil => .nil
  | _, _, .cons h t => .cons (Dh.dr h) (Dhs.dr t)
end
theorem Dhs.app {H : Hp} : ∀ {vs vs' : List V} {Ds Ds' : List PyData}, Dhs H vs Ds → Dhs H vs' Ds' → Dhs H (vs ++ vs') (Ds ++ Ds')
  | _, _, _, _, .nil, h => h
  | _, _, _, _, .cons a b, h => .cons a (Dhs.app b h)
theorem Dhs.rev {H : Hp} : ∀ {vs : List V} {Ds : List PyData}, Dhs H vs Ds → Dhs H vs.reverse Ds.reverse
  | _, _, .nil => .nil
  | _, _, .cons a b => by
    rw [List.reverse_cons, List.reverse_cons]
    exact (Dhs.rev b).app (.cons a .nil)
theorem Dhs.len {H : Hp} : ∀ {vs : List V} {Ds : List PyData}, Dhs H vs Ds → vs.length = Ds.length
  | _, _, .nil => rfl
  | _, _, .cons a b => congrArg (· + 1) (Dhs.len b)
theorem Dhs.get {H : Hp} : ∀ {vs : List V} {Ds : List PyData} (i : Nat) {v : V}, Dhs H vs Ds → vs[i]? = some v → ∃ D, Ds[i]? = some D ∧ Dh H v D
  | _, _, _, _, .nil, h => by cases h
  | _, _, 0, _, .cons a b, h => by cases Option.some.inj h; exact ⟨_, rfl, a⟩
  | _, _, i + 1, _, .cons a b, h => Dhs.get i b h
theorem Dhs.getD {H : Hp} : ∀ {vs : List V} {Ds : List PyData} (i : Nat) {D : PyData}, Dhs H vs Ds → Ds[i]? = some D → ∃ v, vs[i]? = some v ∧ Dh H v D
  | _, _, _, _, .nil, h => by cases h
  | _, _, 0, _, .cons a b, h => by cases Option.some.inj h; exact ⟨_, rfl, a⟩
  | _, _, i + 1, _, .cons a b, h => Dhs.getD i b h
theorem dhs_strs {H : Hp} : ∀ ss : List Str, Dhs H (ss.map V.str) (ss.map PyData.str)
  | [] => .nil
  | s :: ss => .cons (.str s) (dhs_strs ss)
theorem Dhs.strs {H : Hp} : ∀ {ss : List Str} {vs : List V}, Dhs H vs (ss.map PyData.str) → vs = ss.map V.str
  | [], _, h => by cases h; rfl
  | s :: ss, _, h => by
    cases h with
    | cons a b =>
      cases a
      rw [Dhs.strs b]; rfl
theorem dh_strs {H : Hp} {a : Addr} {ss : List Str} (h : LsS H a ss) : Dh H (.ref a) (.list (ss.map PyData.str)) := .lst h (dhs_strs ss)
def Env (σ : St) (H : Hp) (ρ : List (Nat × PyData)) : Prop := ∀ p ∈ ρ, ∃ v, σ[p.1]? = some (some v) ∧ Dh H v p.2
theorem Env.ext {σ : St} {H H' : Hp} {ρ : List (Nat × PyData)} (h : Env σ H ρ) (e : Ext H H') : Env σ H' ρ := fun p hp => by
  obtain ⟨v, h1, h2⟩ := h p hp
  exact ⟨v, h1, h2.ext e⟩
theorem env_nil {σ : St} {H : Hp} : Env σ H [] := fun p h => by cases h
theorem env_cons {σ : St} {H : Hp} {ρ : List (Nat × PyData)} {i : Nat} {D : PyData} {v : V} (h : σ[i]? = some (some v)) (d : Dh H v D) (r : Env σ H ρ) : Env σ H ((i, D) :: ρ) := fun p hp => by
  rcases List.mem_cons.mp hp with rfl | z
  · exact ⟨v, h, d⟩
  · exact r p z
def tD (ρ : List (Nat × PyData)) (D : PyData) : TE := fun σ H Q => Env σ H ρ ∧ ∀ v H', Ext H H' → Dh H' v D → Q v H'
def tDs (ρ : List (Nat × PyData)) (Ds : List PyData) : TA := fun σ H Q => Env σ H ρ ∧ ∀ vs H', Ext H H' → Dhs H' vs Ds → Q vs H'
section
variable {X : Cx} {ρ : List (Nat × PyData)} {D : PyData} {Ds As Bs : List PyData} {e a b : Expr} {es es' : List Expr} {p : Pos} {c j : Nat}
theorem pd_nm {i : Nat} (h : PE X e (tVar i)) (m : (i, D) ∈ ρ) : PEx X e (tD ρ D) := ⟨h.imp fun σ H Q ⟨en, q⟩ => by
  obtain ⟨v, h1, h2⟩ := en _ m
  exact ⟨v, h1, q v H (Ext.refl _) h2⟩⟩
theorem pd_str {x : Str} : PEx X (.Constant (.str x) j p) (tD ρ (.str x)) := ⟨pe_str.imp fun σ H Q ⟨_, q⟩ => q _ H (Ext.refl _) (.str x)⟩
theorem ds_nil : PAx X [] (tDs ρ []) := ⟨pa_nil.imp fun σ H Q ⟨_, q⟩ => q _ H (Ext.refl _) .nil⟩
theorem ds_cons (ha : PEx X e (tD ρ D)) (hr : PAx X es (tDs ρ Ds)) (hs : starEach (e :: es) X.env = (false, eval e X.env) :: starEach es X.env) : PAx X (e :: es) (tDs ρ (D :: Ds)) := ⟨(pa_cons ha.h hr.h hs).imp fun σ H Q ⟨en, q⟩ =>
  ⟨en, fun v H1 e1 d1 => ⟨en.ext e1, fun vs H2 e2 d2 => q _ H2 (e1.trans e2) (.cons (d1.ext e2) d2)⟩⟩⟩
theorem ds_l (ha : PEx X (.List es' p) (tD ρ D)) (hr : PAx X es (tDs ρ Ds)) : PAx X (.List es' p :: es) (tDs ρ (D :: Ds)) := ds_cons ha hr rfl
theorem ds_t (ha : PEx X (.Tuple es' c p) (tD ρ D)) (hr : PAx X es (tDs ρ Ds)) : PAx X (.Tuple es' c p :: es) (tDs ρ (D :: Ds)) := ds_cons ha hr rfl
theorem ds_c {k : Const} (ha : PEx X (.Constant k j p) (tD ρ D)) (hr : PAx X es (tDs ρ Ds)) : PAx X (.Constant k j p :: es) (tDs ρ (D :: Ds)) := ds_cons ha hr rfl
theorem ds_n {x : Str} (ha : PEx X (.Name x p) (tD ρ D)) (hr : PAx X es (tDs ρ Ds)) : PAx X (.Name x p :: es) (tDs ρ (D :: Ds)) := ds_cons ha hr rfl
theorem ds_k {kw : List Keyword} (ha : PEx X (.Call a es' kw p) (tD ρ D)) (hr : PAx X es (tDs ρ Ds)) : PAx X (.Call a es' kw p :: es) (tDs ρ (D :: Ds)) := ds_cons ha hr rfl
theorem pd_lst (h : PAx X es (tDs ρ Ds)) (hl : Ds.length ≤ 1000) : PEx X (.List es p) (tD ρ (.list Ds)) := ⟨(pe_lst h.h).imp fun σ H Q ⟨en, q⟩ =>
  ⟨en, fun vs H1 e1 d => ⟨by rw [d.len]; exact Nat.le_of_lt (small1000 hl), fun r hr => q _ _ (e1.trans (Ext.new hr _)) (.lst upd_same (d.ext (Ext.new hr _)))⟩⟩⟩
theorem pd_tup (h : PAx X es (tDs ρ Ds)) (hl : Ds.length ≤ 1000) : PEx X (.Tuple es c p) (tD ρ (.tuple Ds)) := ⟨(pe_tup h.h).imp fun σ H Q ⟨en, q⟩ =>
  ⟨en, fun vs H1 e1 d => ⟨by rw [d.len]; exact Nat.le_of_lt (small1000 hl), fun r hr => q _ _ (e1.trans (Ext.new hr _)) (.tup upd_same (d.ext (Ext.new hr _)))⟩⟩⟩
end
section
variable {X : Cx} {ρ : List (Nat × PyData)} {Ds : List PyData} {e : Expr}
theorem pe_of {t : TE} (h : PEx X e t) : PE X e t := h.h
theorem pd_imp (D : PyData) {te : TE} (h : PE X e te) (i : ∀ σ H Q, Env σ H ρ → (∀ v H', Ext H H' → Dh H' v D → Q v H') → te σ H Q) : PEx X e (tD ρ D) := ⟨h.imp fun σ H Q ⟨a, b⟩ => i σ H Q a b⟩
end
theorem Dh.extB {Pt : Addr} {ps : Array Value} {H H' : Hp} (hP : H Pt = some (.tbl ps)) (e : ExtB Pt H H') : ∀ {v : V} {D : PyData}, Dh H v D → Dh H' v D := by
  have ne : ∀ {a : Addr} {o : HO}, H a = some o → (∀ ps, o ≠ .tbl ps) → H' a = some o := fun {a o} h n => e _ _ (ne_of h hP (n ps)) h
  have both : (∀ v D, Dh H v D → Dh H' v D) ∧ (∀ vs Ds, Dhs H vs Ds → Dhs H' vs Ds) := by
    refine ⟨fun v D h => ?_, fun vs Ds h => ?_⟩
    · exact Dh.rec (motive_1 := fun v D _ => Dh H' v D) (motive_2 := fun vs Ds _ => Dhs H' vs Ds) .non (fun b => .bl b) (fun i => .int i) (fun x => .str x) (fun h _ ih => .lst (ne h (fun _ z => by cases z)) ih) (fun h _ ih => .tup (ne h (fun _ z => by cases z)) ih) .nil (fun _ _ a b => .cons a b) h
    · exact Dhs.rec (motive_1 := fun v D _ => Dh H' v D) (motive_2 := fun vs Ds _ => Dhs H' vs Ds) .non (fun b => .bl b) (fun i => .int i) (fun x => .str x) (fun h _ ih => .lst (ne h (fun _ z => by cases z)) ih) (fun h _ ih => .tup (ne h (fun _ z => by cases z)) ih) .nil (fun _ _ a b => .cons a b) h
  exact fun {v D} h => both.1 v D h
end My
namespace My
open PySem L2
theorem mask_a {a b : Str} (ne : a ≠ b) : maskF [a, b] [a] = 2 ∧ maskF [a, b] [b] = 1 := by
  constructor
  · show 2 * (2 * 0 + (if a ∈ [a] then 1 else 0)) + (if b ∈ [a] then 1 else 0) = 2
    rw [if_pos (by simp), if_neg (fun z => ne (List.mem_singleton.mp z).symm)]
  · show 2 * (2 * 0 + (if a ∈ [b] then 1 else 0)) + (if b ∈ [b] then 1 else 0) = 1
    rw [if_neg (fun z => ne (List.mem_singleton.mp z)), if_pos (by simp)]
theorem row3 (a b : Str) : [3].map (rowM [a, b]) = [[a, b]] := by
  show [rowM [a, b] 3] = _
  have b1 : Nat.testBit 3 1 = true := by decide
  have b0 : Nat.testBit 3 0 = true := by decide
  show [(List.filterMap (fun i => if Nat.testBit 3 (2 - 1 - i) = true then ([a, b] : List Str)[i]? else none) [0, 1])] = _
  rw [List.filterMap_cons, List.filterMap_cons]
  rfl
def spPartT : Sp := fun vs H Q _ => ∃ (T G : Addr) (gs : List Addr) (a b : Str) (rows : List (List Str)), vs = [.ref T, .ref G] ∧ TabIn H T [a, b] rows ∧ rows.length ≤ 24 ∧ red (rows.map (maskF [a, b])) = [3] ∧ a ≠ b ∧ H G = some (.lst (gs.map V.ref)) ∧ Paired (fun x r => LsS H x r) gs [[a], [b]] ∧ ∀ T' H', Ext H H' → TabIn H' T' [a, b] [[a, b]] → Q (.ref T') H'
section
variable {P : Program} {w : World} {K : PySem.W.Frag} {mg : Str → Option Value} {base : Heap} {f f1 f2 f3 f4 : Addr} {fd fd1 fd2 fd3 fd4 : FuncData}
abbrev pqN : List Str := ["table", "share", "groups"]
theorem scPartT : FnScope pqN ["table", "share"] (defScope sPartT) := ⟨rfl, rfl, rfl, by decide +kernel, rfl, by decide +kernel, by decide +kernel⟩
set_option maxHeartbeats 8000000 in
theorem ok_partt (F : Fun K "part_table" "part_table" sPartT f fd)
    (G1 : FnOk P w K mg base CX0 1 f1 fd1 ["names", "row"] spMask) (bG1 : Binds K fd1 ["names", "row"] []) (kG1 : PySem.W.keepIn K (.ref f1) = true) (mG1 : mg "mask_of" = some (.ref f1))
    (G2 : FnOk P w K mg base CX0 3 f2 fd2 ["names", "masks"] spTabF) (bG2 : Binds K fd2 ["names", "masks"] []) (kG2 : PySem.W.keepIn K (.ref f2) = true) (mG2 : mg "table_from" = some (.ref f2))
    (G3 : FnOk P w K mg base CX0 3 f3 fd3 ["steps", "groups"] spShare) (bG3 : Binds K fd3 ["steps", "groups"] []) (kG3 : PySem.W.keepIn K (.ref f3) = true) (mG3 : mg "share_masks" = some (.ref f3))
    (G4 : FnOk P w K mg base CX0 3 f4 fd4 ["table"] spStepM) (bG4 : Binds K fd4 ["table"] []) (kG4 : PySem.W.keepIn K (.ref f4) = true) (mG4 : mg "step_masks" = some (.ref f4)) : FnOk P w K mg base CX0 4 f fd ["table", "share"] spPartT := by
  refine F.ok scPartT (fun vs H Q E h => ?_) (fun cdv A outer s H vs Q E hr h => ?_)
  · obtain ⟨T, G, gs, a, b, rows, rfl, _⟩ := h
    rfl
  obtain ⟨T, G, gs, a, b, rows, rfl, ti, lr, hred, ne, hG, pg, q⟩ := h
  have hr1 := hr.mono (j := 1) (by decide)
  refine ⟨_, pss_cons (ps_lc (i := 2) (N := pqN) (sc := defScope sPartT) (N' := ["group", "table"]) (sub := [none, some 0]) rfl rfl (CmpOk.of (by decide +kernel)) rfl (pi_list (pv 1))
      (fun C s H fp => ⟨pg_name (i := 0) (by show (["group", "table"] : List Str).Nodup; decide) rfl (Or.inl rfl), pts_nil, pe_call G1 hr1 rfl mG1 kG1 bG1 .nil pass0 (pa_cons (pe_ix (show IxR _ (rIxT K) from ix_tup) (pv 1) pe_int (fun _ _ => rfl)) (pa_cons (pv 0) pa_nil))⟩) scPartT.nd rfl (Or.inl rfl))
    (pss_one (ps_ret (pe_call G2 hr rfl mG2 kG2 bG2 .nil pass0 (pa_cons
      (pe_lc (N := pqN) (sc := defScope sPartT) (N' := ["group"]) (sub := [none]) rfl rfl (CmpOk.of (by decide +kernel)) rfl (pi_list (pv 1))
        (fun C s H fp => ⟨pg_name (i := 0) (by show (["group"] : List Str).Nodup; decide) rfl (Or.inl rfl), pts_nil, pe_ix (show IxR _ (rIxL K) from ix_list) (pv 0) pe_int (fun _ _ => rfl)⟩))
      (pa_cons (pe_call G3 hr rfl mG3 kG3 bG3 .nil pass0 (pa_cons (pe_call G4 hr rfl mG4 kG4 bG4 .nil pass0 (pa_cons (pv 0) pa_nil)) (pa_cons (pv 2) pa_nil))) pa_nil))))), ?_⟩
  try dsimp only [Cx.wish, cxOf]
  obtain ⟨ta, tb, hT, hn, hb⟩ := id ti
  obtain ⟨ma, mb⟩ := mask_a ne
  have lgs : gs.length = 2 := pg.length
  have rg : ∀ {j : Nat} {x : Addr}, gs[j]? = some x → ∃ c : Str, LsS H x [c] ∧ ([[a], [b]] : List (List Str))[j]? = some [c] ∧ (([2, 1] : List Nat)[j]? = some (maskF [a, b] [c])) ∧ ([a, b] : List Str)[j]? = some c := fun {j x} hx => by
    obtain ⟨r, hr', hx'⟩ := paired_get pg hx
    have hj := at_lt hr'
    have hj2 : j < 2 := hj
    rcases (show j = 0 ∨ j = 1 by omega) with rfl | rfl
    · cases (Option.some.inj hr'); exact ⟨a, hx', rfl, by rw [ma]; rfl, rfl⟩
    · cases (Option.some.inj hr'); exact ⟨b, hx', rfl, by rw [mb]; rfl, rfl⟩
  refine ⟨_, rfl, G, rfl, ⟨_, SqL.of hG⟩, ?_⟩
  refine turns_list (xs := gs.map V.ref) (fun j ys H2 => H = H2 ∧ ys = (([2, 1] : List Nat).take j).map iV) ⟨rfl, rfl⟩ (fun j ys H2 _ h => by rw [← h.1]; exact SqL.of hG) ?_ ?_
  · rintro j v ys H2 hx ⟨rfl, rfl⟩
    obtain ⟨x, rfl, hx'⟩ := ref_get hx
    obtain ⟨c, hc, _, hm, _⟩ := rg hx'
    have hj := at_lt hm
    refine ⟨Sle.set _ (Sle.refl _) (fun u z => by cases z), iteT (B := False) ⟨_, rfl, T, _, _, _, rfl, rfl, SqT.of hT, (by exact atI_nat (j := 0) rfl), _, rfl, ta, x, [a, b], [c], rfl, hn, hc, ?_, nxt (at_lt hx) ⟨rfl, ?_⟩⟩⟩
    · rw [List.length_map, List.length_take]; exact small1000 (by show min j 2 ≤ 1000; omega)
    · rw [take_snoc hm, List.map_append]; rfl
  · rintro ys H2 ⟨rfl, rfl⟩ gr hgr
    rw [List.length_map, lgs]
    have n1 := Ext.new hgr (.lst (([2, 1] : List Nat).map iV))
    refine ⟨_, rfl, G, rfl, ⟨_, SqL.of (n1 _ _ hG)⟩, ?_⟩
    have hgr' : LsN (upd H gr (.lst (([2, 1] : List Nat).map iV))) gr (Gs 2) := upd_same
    show cTurns _ _ _ _ _ _ (upd H gr (.lst (([2, 1] : List Nat).map iV)))
    revert n1 hgr'
    generalize upd H gr (.lst (([2, 1] : List Nat).map iV)) = H1
    intro n1 hgr'
    refine turns_list (xs := gs.map V.ref) (fun j ys H2 => H1 = H2 ∧ ys = (([a, b] : List Str).take j).map V.str) ⟨rfl, rfl⟩ (fun j ys H2 _ h => by rw [← h.1]; exact SqL.of (n1 _ _ hG)) ?_ ?_
    · rintro j v ys H2 hx ⟨rfl, rfl⟩
      obtain ⟨x, rfl, hx'⟩ := ref_get hx
      obtain ⟨c, hc, _, _, hm⟩ := rg hx'
      have hj := at_lt hm
      refine ⟨Sle.set _ (Sle.refl _) (fun u z => by cases z), iteT (B := False) ⟨_, rfl, x, _, _, _, rfl, rfl, SqL.of (n1 _ _ hc), (by exact atI_nat (j := 0) rfl), ?_, nxt (at_lt hx) ⟨rfl, ?_⟩⟩⟩
      · rw [List.length_map, List.length_take]; exact small1000 (by show min j 2 ≤ 1000; omega)
      · rw [take_snoc hm, List.map_append]; rfl
    · rintro ys H2 ⟨rfl, rfl⟩ nl hnl
      rw [List.length_map, lgs]
      have n2 := Ext.new hnl (.lst (([a, b] : List Str).map V.str))
      have hnl' : LsS (upd H1 nl (.lst (([a, b] : List Str).map V.str))) nl [a, b] := upd_same
      show (fun σ H Q => _) _ (upd H1 nl (.lst (([a, b] : List Str).map V.str))) _
      revert n2 hnl'
      generalize upd H1 nl (.lst (([a, b] : List Str).map V.str)) = H2
      intro n2 hnl'
      have E2 := n1.trans n2
      refine ⟨_, rfl, T, [a, b], rows, rfl, ti.ext E2, lr, fun st M H3 e3 st0 hM pM dM => ?_⟩
      rw [hred] at pM
      have eM : M = [3] := List.perm_singleton.mp pM
      rw [eM] at hM
      refine ⟨_, rfl, st, gr, 2, [3], rfl, .inr (.inr ⟨rfl, rfl⟩), hM, e3 _ _ (n2 _ _ hgr'), fun sh H4 e4 sh0 hsh => ?_⟩
      refine ⟨nl, sh, [a, b], [3], rfl, e4 _ _ (e3 _ _ hnl'), by show 2 ≤ 12; decide, hsh, by decide, fun T' M' H5 e5 T'0 tf pM' dM' => ?_⟩
      have e33 : red [3] = [3] := by decide +kernel
      rw [e33] at pM'
      have eM' : M' = [3] := List.perm_singleton.mp pM'
      rw [eM', row3] at tf
      exact q T' H5 (E2.trans (e3.trans (e4.trans e5))) tf.tin
end
end My
namespace My
open PySem L2
def mV (v : Nat) : Nat := if v = 2 then 2 else 1
def SV (v : Nat) : List Nat := if v = 0 then [] else if v = 1 then [1] else [3]
def rowsV (ss : List Str) (v : Nat) : List (List Str) := if v = 0 then [[]] else if v = 1 then [ss] else [ss, [], ss]
def ddV (ss : List Str) (v : Nat) : PyData := if v = 0 then .tuple [.str "bridge", .list [rowD ss]] else if v = 1 then .tuple [.str "loop", .list [rowD ss]] else .tuple [.str "ring", .list (ss.map fun s => .list [.str s])]
def rdV (ss : List Str) (v : Nat) : PyData := .list ((rowsV ss v).map rowD)
theorem cs_v {v : Nat} (h : v < 3) : Cs (mV v) (SV v) := by
  rcases (show v = 0 ∨ v = 1 ∨ v = 2 by omega) with rfl | rfl | rfl
  · exact .inl ⟨rfl, rfl⟩
  · exact .inr (.inl ⟨rfl, rfl⟩)
  · exact .inr (.inr ⟨rfl, rfl⟩)
theorem len_v {ss : List Str} {v : Nat} (h : v < 3) (l : ss.length = mV v) : (v < 2 ∧ ∃ n, ss = [n]) ∨ (v = 2 ∧ ∃ a b, ss = [a, b]) := by
  rcases (show v = 0 ∨ v = 1 ∨ v = 2 by omega) with rfl | rfl | rfl
  · refine .inl ⟨by decide, ?_⟩
    match ss, l with
    | [n], _ => exact ⟨n, rfl⟩
  · refine .inl ⟨by decide, ?_⟩
    match ss, l with
    | [n], _ => exact ⟨n, rfl⟩
  · refine .inr ⟨rfl, ?_⟩
    match ss, l with
    | [a, b], _ => exact ⟨a, b, rfl⟩
theorem rows_len {ss : List Str} {v : Nat} : (rowsV ss v).length ≤ 3 := by
  unfold rowsV
  split
  · decide
  · split
    · show 1 ≤ 3; decide
    · show 3 ≤ 3; decide
theorem red_v {ss : List Str} {v : Nat} (h : v < 3) (l : ss.length = mV v) : red ((rowsV ss v).map (maskF ss)) = SV v := by
  rcases len_v h l with ⟨hv, n, rfl⟩ | ⟨rfl, a, b, rfl⟩
  · rcases (show v = 0 ∨ v = 1 by omega) with rfl | rfl
    · show red [2 * 0 + (if n ∈ ([] : List Str) then 1 else 0)] = []
      rw [if_neg (by simp)]; decide +kernel
    · show red [2 * 0 + (if n ∈ [n] then 1 else 0)] = [1]
      rw [if_pos (by simp)]; decide +kernel
  · show red [2 * (2 * 0 + (if a ∈ [a, b] then 1 else 0)) + (if b ∈ [a, b] then 1 else 0), 2 * (2 * 0 + (if a ∈ ([] : List Str) then 1 else 0)) + (if b ∈ ([] : List Str) then 1 else 0), 2 * (2 * 0 + (if a ∈ [a, b] then 1 else 0)) + (if b ∈ [a, b] then 1 else 0)] = [3]
    rw [if_pos (by simp), if_pos (by simp), if_neg (by simp), if_neg (by simp)]
    decide +kernel
theorem row1 (n : Str) : [1].map (rowM [n]) = [[n]] := by
  show [(List.filterMap (fun i => if Nat.testBit 1 (1 - 1 - i) = true then ([n] : List Str)[i]? else none) [0])] = _
  rw [List.filterMap_cons]; rfl
theorem row21 (a b : Str) : [2, 1].map (rowM [a, b]) = [[a], [b]] := by
  show [(List.filterMap (fun i => if Nat.testBit 2 (2 - 1 - i) = true then ([a, b] : List Str)[i]? else none) [0, 1]), (List.filterMap (fun i => if Nat.testBit 1 (2 - 1 - i) = true then ([a, b] : List Str)[i]? else none) [0, 1])] = _
  rw [List.filterMap_cons, List.filterMap_cons, List.filterMap_cons, List.filterMap_cons]
  rfl
theorem found_v {ss : List Str} {v : Nat} (h : v < 3) (l : ss.length = mV v) : PyData.tuple [.str (kiF (mV v) (SV v)), .list (((Gs (mV v)).map (rowM ss)).map rowD)] = ddV ss v := by
  rcases len_v h l with ⟨hv, n, rfl⟩ | ⟨rfl, a, b, rfl⟩
  · rcases (show v = 0 ∨ v = 1 by omega) with rfl | rfl
    · show PyData.tuple [.str "bridge", .list (([1].map (rowM [n])).map rowD)] = _
      rw [row1]; rfl
    · show PyData.tuple [.str "loop", .list (([1].map (rowM [n])).map rowD)] = _
      rw [row1]; rfl
  · show PyData.tuple [.str "ring", .list (([2, 1].map (rowM [a, b])).map rowD)] = _
    rw [row21]; rfl
def Ly (D : PyData) (k : Nat) : Prop := D.canLay0 = true ∧ D.depth ≤ k
theorem ly_str {s : Str} {k : Nat} (h : PyData.strOk s = true) : Ly (.str s) k := ⟨h, Nat.zero_le _⟩
theorem ly_all {k : Nat} : ∀ {Ds : List PyData}, (∀ d ∈ Ds, Ly d k) → PyData.canLayAll0 Ds = true ∧ PyData.depthAll Ds ≤ k
  | [], _ => ⟨rfl, Nat.zero_le _⟩
  | d :: ds, h => by
    obtain ⟨a, b⟩ := h d List.mem_cons_self
    obtain ⟨c, e⟩ := ly_all fun x hx => h x (List.mem_cons_of_mem _ hx)
    refine ⟨?_, Nat.max_le.mpr ⟨b, e⟩⟩
    show (d.canLay0 && PyData.canLayAll0 ds) = true
    rw [a, c]; rfl
theorem ly_lst {k : Nat} {Ds : List PyData} (h : ∀ d ∈ Ds, Ly d k) : Ly (.list Ds) (k + 1) := ⟨(ly_all h).1, Nat.succ_le_succ (ly_all h).2⟩
theorem ly_tup {k : Nat} {Ds : List PyData} (h : ∀ d ∈ Ds, Ly d k) : Ly (.tuple Ds) (k + 1) := ⟨(ly_all h).1, Nat.succ_le_succ (ly_all h).2⟩
theorem Ly.sh {D : PyData} {k : Nat} (h : Ly D k) (hk : k ≤ 60) : SeqAt.shaped D = true := by
  show (D.canLay0 && decide (D.depth ≤ 64)) = true
  rw [h.1, decide_eq_true (by have := h.2; omega)]; rfl
theorem Ly.eq {D : PyData} {k : Nat} (h : Ly D k) : (if true = true then !PyData.eqv D D else PyData.eqv D D) = false := by
  rw [SeqAt.eqv_refl D h.1]; rfl
theorem lyc {k : Nat} {d : PyData} {ds : List PyData} (h : Ly d k) (t : ∀ x ∈ ds, Ly x k) : ∀ x ∈ d :: ds, Ly x k := fun x hx => by
  rcases List.mem_cons.mp hx with rfl | z
  · exact h
  · exact t x z
theorem ly0 {k : Nat} : ∀ x ∈ ([] : List PyData), Ly x k := fun x h => by cases h
theorem ly_row {ss : List Str} (h : ∀ s ∈ ss, Named s) : Ly (rowD ss) 1 := ly_lst (k := 0) fun d hd => by
  obtain ⟨s, hs, rfl⟩ := List.mem_map.mp hd
  exact ly_str (h s hs).1.sm.ok
theorem Ly.mono {D : PyData} {j k : Nat} (h : Ly D j) (l : j ≤ k) : Ly D k := ⟨h.1, Nat.le_trans h.2 l⟩
theorem ly_dd {ss : List Str} {v : Nat} (h : ∀ s ∈ ss, Named s) : Ly (ddV ss v) 4 := by
  unfold ddV
  split
  · exact (ly_tup (k := 2) (lyc (ly_str (by decide +kernel)) (lyc (ly_lst (k := 1) (lyc (ly_row h) ly0)) ly0))).mono (by decide)
  · split
    · exact (ly_tup (k := 2) (lyc (ly_str (by decide +kernel)) (lyc (ly_lst (k := 1) (lyc (ly_row h) ly0)) ly0))).mono (by decide)
    · refine (ly_tup (k := 2) (lyc (ly_str (by decide +kernel)) (lyc (ly_lst (k := 1) fun d hd => ?_) ly0))).mono (by decide)
      obtain ⟨s, hs, rfl⟩ := List.mem_map.mp hd
      exact ly_lst (k := 0) (lyc (ly_str (h s hs).1.sm.ok) ly0)
theorem ly_rd {ss : List Str} {v : Nat} (h : ∀ s ∈ ss, Named s) : Ly (rdV ss v) 2 := by
  refine ly_lst (k := 1) fun d hd => ?_
  obtain ⟨r, hr, rfl⟩ := List.mem_map.mp hd
  refine ly_row fun s hs => ?_
  unfold rowsV at hr
  split at hr
  · rw [List.mem_singleton] at hr; subst hr; cases hs
  · split at hr
    · rw [List.mem_singleton] at hr; subst hr; exact h s hs
    · simp only [List.mem_cons, List.not_mem_nil, or_false] at hr
      rcases hr with rfl | rfl | rfl
      · exact h s hs
      · cases hs
      · exact h s hs
theorem dhs_rows {H : Hp} : ∀ {as : List Addr} {rows : List (List Str)}, Paired (fun a r => LsS H a r) as rows → Dhs H (as.map V.ref) (rows.map rowD)
  | _, _, .nil => .nil
  | _, _, .cons h t => .cons (dh_strs h) (dhs_rows t)
theorem rows_dhs {H : Hp} : ∀ {rows : List (List Str)} {vs : List V}, Dhs H vs (rows.map rowD) → ∃ as : List Addr, vs = as.map V.ref ∧ Paired (fun a r => LsS H a r) as rows
  | [], _, h => by cases h; exact ⟨[], rfl, .nil⟩
  | r :: rows, _, h => by
    cases h with
    | cons a b =>
      obtain ⟨as, rfl, pr⟩ := rows_dhs b
      cases a with
      | lst h1 h2 =>
        cases h2.strs
        exact ⟨_ :: as, rfl, .cons h1 pr⟩
theorem TabIn.dh {H : Hp} {T : Addr} {names : List Str} {rows : List (List Str)} (h : TabIn H T names rows) : Dh H (.ref T) (.tuple [rowD names, .list (rows.map rowD)]) := by
  obtain ⟨a, b, h1, h2, as, h3, pr⟩ := h
  exact .tup h1 (.cons (dh_strs h2) (.cons (.lst h3 (dhs_rows pr)) .nil))
theorem TabIn.of {H : Hp} {T : Addr} {names : List Str} {rows : List (List Str)} (h : Dh H (.ref T) (.tuple [rowD names, .list (rows.map rowD)])) : TabIn H T names rows := by
  cases h with
  | tup h1 h2 =>
    cases h2 with
    | cons x y =>
      cases y with
      | cons y z =>
        cases z
        cases x with
        | lst a1 a2 =>
          cases a2.strs
          cases y with
          | lst b1 b2 =>
            obtain ⟨as, rfl, pr⟩ := rows_dhs b2
            exact ⟨_, _, h1, a1, as, b1, pr⟩
theorem TabW.put {H : Hp} {P x : Addr} {lpos : Pos} {q : Str} {xs : List V} (h : TabW H P lpos q) (hx : H x = some (.lst xs)) (o : HO) : TabW (upd H x o) P lpos q := by
  rcases h with h | ⟨c, h1, h2⟩
  · exact .inl (by rw [upd_ne (ne_of h hx (fun z => by cases z))]; exact h)
  · exact .inr ⟨c, by rw [upd_ne (ne_of h1 hx (fun z => by cases z))]; exact h1, by rw [upd_ne (ne_of h2 hx (fun z => by cases z))]; exact h2⟩
theorem ExtB.nn {P : Addr} {H H' : Hp} {ps : Array Value} {x : Addr} (e : ExtB P H H') (hP : H' P = some (.tbl ps)) (n : H' x = none) : H x = none := by
  cases q : H x with
  | none => rfl
  | some o =>
    have : x ≠ P := fun z => by rw [z, hP] at n; cases n
    rw [e x o this q] at n; cases n
theorem ExtB.over {P x : Addr} {H H' : Hp} (e : ExtB P H H') (n : H x = none) (o : HO) : ExtB P H (upd H' x o) := fun b u hb h => by
  rw [upd_ne (ne_of_none h n)]; exact e b u hb h
end My
namespace L2
open PySem PySem.Spec PyProof.Rows
def tCutE (t : TS) : TS := fun D σ H => ∃ Pm : St → Hp → Prop, t { D with nx := Pm } σ H ∧ ∀ σ' H', Pm σ' H' → D.nx σ' H'
theorem ps_cutE {X : Cx} {st : Stmt} {t : TS} (h : PS X st t) : PS X st (tCutE t) := by
  intro pins s σ H D I hw
  obtain ⟨Pm, h1, h2⟩ := hw
  refine thn (h pins s σ H { D with nx := Pm } I h1) fun fl s' q => ?_
  cases fl with
  | next => obtain ⟨σ', H', I', q⟩ := q; exact ⟨σ', H', I', h2 σ' H' q⟩
  | brk => exact q
  | cont => exact q
  | ret _ => exact q
end L2
namespace My
open PySem L2
structure PSx (X : Cx) (st : Stmt) (t : TS) : Prop where
  h : PS X st t
structure PSsx (X : Cx) (sts : List Stmt) (t : TS) : Prop where
  h : PSs X sts t
theorem px_cons {X : Cx} {st : Stmt} {rest : List Stmt} {t u : TS} (h1 : PSx X st t) (h2 : PSsx X rest u) : PSsx X (st :: rest) (tSeq t u) := ⟨pss_cons h1.h h2.h⟩
theorem px_one {X : Cx} {st : Stmt} {t : TS} (h1 : PSx X st t) : PSsx X [st] t := ⟨pss_one h1.h⟩
theorem px_of {X : Cx} {sts : List Stmt} {t' : TS} (h : ∀ D σ H, t' D σ H → ∃ t, PSsx X sts t ∧ t D σ H) : PSsx X sts t' := ⟨fun pins s σ H D I hw => by
  obtain ⟨t, r, h2⟩ := h D σ H hw
  exact r.h pins s σ H D I h2⟩
theorem ds_lc {X : Cx} {ρ : List (Nat × PyData)} {D : PyData} {Ds : List PyData} {elt : Expr} {gens : List Comprehension} {sc : Scope} {p : Pos} {es : List Expr} (ha : PEx X (.ListComp elt gens sc p) (tD ρ D)) (hr : PAx X es (tDs ρ Ds)) : PAx X (.ListComp elt gens sc p :: es) (tDs ρ (D :: Ds)) := ds_cons ha hr rfl
theorem boot_int' : bootBuiltins "int" = some (.type "int") := by decide +kernel
abbrev laN : List Str := ["_law_script", "_law_k", "_law_big_here", "_law_names_here", "_law_rows", "_law_table", "_law_due", "_law_handed", "_law_turn", "_law_found"]
def lwB : List Stmt := match (defBody sLaw).getD 0 (.Pass ⟨0, 0, 0, 0⟩) with
  | .For _ _ b _ _ => b
  | _ => []
def lwS (i : Nat) : Stmt := lwB.getD i (.Pass ⟨0, 0, 0, 0⟩)
theorem hbLaw : ∃ q1 q2 q3 q4 q5 q6 q7, defBody sLaw = [.For (.Name "_law_k" q1) (.Call (.Name "range" q2) [.Constant (.int 20) 0 q3] [] q4) [lwS 0, lwS 1, lwS 2, lwS 3, lwS 4, lwS 5, lwS 6] [] q5, .Return (some (.Constant (.bool true) 0 q6)) q7] := ⟨_, _, _, _, _, _, _, rfl⟩
theorem scLaw : FnScope laN ["_law_script"] (defScope sLaw) := ⟨rfl, rfl, rfl, by decide +kernel, rfl, by decide +kernel, by decide +kernel⟩
abbrev LwX (P : Program) (w : World) (K : PySem.W.Frag) (mg : Str → Option Value) (base : Heap) (f : Addr) (cdv : Value) (A : Around) (outer : List PySem.Env) (s : Shared) (H0 : Hp) (E : XK) : Cx := (cxOf CX0 P w K mg base laN "law" (defScope sLaw) f cdv A outer s H0 E).nox
abbrev stF (a : Addr) (k : Option V) (b : Int) (na : Addr) (x4 x5 x6 x7 x8 x9 : Option V) : St := [some (.ref a), k, some (.int b), some (.ref na), x4, x5, x6, x7, x8, x9]
def tRest (Pt : Addr) : TS := fun D σ H => ∃ (a na : Addr) (k : Option V) (b : Int) (ss : List Str) (v : Nat) (x4 x5 x6 x7 x8 x9 : Option V), σ = stF a k b na x4 x5 x6 x7 x8 x9 ∧ LsS H na ss ∧ (∀ s ∈ ss, Named s) ∧ ss.Nodup ∧ ss.length = mV v ∧ b % 3 = ((v : Nat) : Int) ∧ v < 3 ∧ TabW H Pt lpP qL ∧
  ∀ (y4 y5 y6 y7 y8 y9 : Option V) H', ExtB Pt H H' → TabW H' Pt lpP qL → D.nx (stF a k b na y4 y5 y6 y7 y8 y9) H'
section
variable {P : Program} {w : World} {K : PySem.W.Frag} {mg : Str → Option Value} {base : Heap} {f f1 f2 f3 f4 f5 Pt : Addr} {fd fd1 fd2 fd3 fd4 fd5 : FuncData}
set_option maxHeartbeats 8000000 in
theorem lw_rest {cdv : Value} {A : Around} {outer : List PySem.Env} {s : Shared} {H0 : Hp} {E : XK} (hr : Room 6 (LwX P w K mg base f cdv A outer s H0 E).A)
    (G4 : FnOk P w K mg base CX0 6 f4 fd4 ["table"] (spParts Pt)) (bG4 : Binds K fd4 ["table"] []) (kG4 : PySem.W.keepIn K (.ref f4) = true) (mG4 : mg "parts" = some (.ref f4))
    (G5 : FnOk P w K mg base CX0 4 f5 fd5 ["table", "share"] spPartT) (bG5 : Binds K fd5 ["table", "share"] []) (kG5 : PySem.W.keepIn K (.ref f5) = true) (mG5 : mg "part_table" = some (.ref f5))
    (mL : mg "list" = none) (mr : mg "range" = none) (mi : mg "isinstance" = none) : PSsx (LwX P w K mg base f cdv A outer s H0 E) [lwS 2, lwS 3, lwS 4, lwS 5, lwS 6] (tRest Pt) := by
  refine px_of fun D σ H h => ?_
  obtain ⟨a, na, k, b, ss, v, x4, x5, x6, x7, x8, x9, rfl, hna, nmd, nd, ls, hbv, hv, tw, qn⟩ := h
  have hr6 := hr
  have hr4 := hr.mono (j := 4) (by decide)
  have m3 : ((3, rowD ss) : Nat × PyData) ∈ [((3, rowD ss) : Nat × PyData)] := by simp
  have lnW : ∀ (σ : St) (H : Hp) (Q : VK), Env σ H [((3, rowD ss) : Nat × PyData)] → (∀ v H', Ext H H' → Dh H' v (rowD ss) → Q v H') → tCB (fun xs H Q => ∃ p ys, xs = [V.ref p] ∧ (SqL K H p ys ∨ SqT K H p ys) ∧ ∀ l, H l = none → Q (.ref l) (upd H l (.lst ys))) (tCons (tVar 3) tNil) σ H Q := fun σ H Q en q => by
    obtain ⟨u, h1, h2⟩ := en _ m3
    cases h2 with
    | lst g1 g2 => exact ⟨_, h1, _, _, rfl, .inl (SqL.of g1), fun l hl => q _ _ (Ext.new hl _) (.lst upd_same (g2.ext (Ext.new hl _)))⟩
  have b2 : PSx (LwX P w K mg base f cdv A outer s H0 E) (lwS 2) (tAsg (tOp (rIxL K) (tD [((3, rowD ss) : Nat × PyData)] (.list [rdV ss 0, rdV ss 1, rdV ss 2])) (tOp (rI (fun _ j => 0 < j) fun i j => .int (i % j)) (tVar 2) (tC (.int 3)))) (gName 4)) := ⟨(ps_set (i := 4) scLaw.nd rfl (Or.inl rfl) (pe_ix ix_list (pe_of (pd_lst (ds_l (pd_lst (ds_l (pd_lst ds_nil (by show 0 ≤ 1000; decide)) ds_nil) (by show 1 ≤ 1000; decide)) (ds_l (pd_lst (ds_k (pd_imp (rowD ss) (pe_callTy call_list_of rfl mL boot_list' (pa_cons (pv 3) pa_nil)) lnW) ds_nil) (by show 1 ≤ 1000; decide)) (ds_l (pd_lst (ds_k (pd_imp (rowD ss) (pe_callTy call_list_of rfl mL boot_list' (pa_cons (pv 3) pa_nil)) lnW) (ds_l (pd_lst ds_nil (by show 0 ≤ 1000; decide)) (ds_k (pd_imp (rowD ss) (pe_callTy call_list_of rfl mL boot_list' (pa_cons (pv 3) pa_nil)) lnW) ds_nil))) (by show 3 ≤ 1000; decide)) ds_nil))) (by show 3 ≤ 1000; decide))) (pe_op op_mod (pv 2) pe_int) (fun _ _ => rfl)))⟩
  have b3 : PSx (LwX P w K mg base f cdv A outer s H0 E) (lwS 3) _ := ⟨(ps_set (i := 5) scLaw.nd rfl (Or.inl rfl) (pe_tup (pa_cons (pv 3) (pa_cons (pv 4) pa_nil))))⟩
  have b4 : PSx (LwX P w K mg base f cdv A outer s H0 E) (lwS 4) (tAsg (tOp (rIxL K) (tD [((3, rowD ss) : Nat × PyData)] (.list [ddV ss 0, ddV ss 1, ddV ss 2])) (tOp (rI (fun _ j => 0 < j) fun i j => .int (i % j)) (tVar 2) (tC (.int 3)))) (gName 6)) := ⟨by
    refine (ps_set (i := 6) scLaw.nd rfl (Or.inl rfl) (pe_ix ix_list (pe_of (pd_lst (ds_t (pd_tup (ds_c pd_str (ds_l (pd_lst (ds_n (pd_nm (pv 3) m3) ds_nil) (by show 1 ≤ 1000; decide)) ds_nil)) (by show 2 ≤ 1000; decide)) (ds_t (pd_tup (ds_c pd_str (ds_l (pd_lst (ds_n (pd_nm (pv 3) m3) ds_nil) (by show 1 ≤ 1000; decide)) ds_nil)) (by show 2 ≤ 1000; decide)) (ds_t (pd_tup (ds_c pd_str (ds_lc (pd_imp (.list (ss.map fun s => .list [.str s])) (pe_lc (N := laN) (sc := defScope sLaw) (N' := ["_law_name"]) (sub := [none]) rfl rfl (CmpOk.of (by decide +kernel)) rfl (pi_list (pv 3)) (fun C s H fp => ⟨pg_name (i := 0) (by show (["_law_name"] : List Str).Nodup; decide) rfl (Or.inl rfl), pts_nil, pe_lst (pa_cons (pv 0) pa_nil)⟩)) ?comp) ds_nil)) (by show 2 ≤ 1000; decide)) ds_nil))) (by show 3 ≤ 1000; decide))) (pe_op op_mod (pv 2) pe_int) (fun _ _ => rfl)))
    case comp =>
      intro σ H Q en q
      obtain ⟨u, h1, h2⟩ := en _ m3
      cases h2 with
      | lst g1 g2 =>
        cases g2.strs
        refine ⟨_, h1, _, rfl, ⟨_, SqL.of g1⟩, ?_⟩
        refine turns_list (xs := ss.map V.str) (fun j ys H2 => Ext H H2 ∧ Dhs H2 ys ((ss.take j).map fun s => .list [.str s]) ∧ ys.length = j) ⟨Ext.refl _, .nil, rfl⟩ (fun j ys H2 _ h => SqL.of (h.1 _ _ g1)) ?_ ?_
        · rintro j x ys H2 hx ⟨e2, dd, ly⟩
          obtain ⟨y, rfl, hy⟩ := str_get hx
          have hj := at_lt hy
          refine ⟨Sle.set _ (Sle.refl _) (fun u z => by cases z), iteT (B := False) ⟨_, rfl, (by show 1 ≤ sizeLine; decide), fun l hl => ⟨small1000 (by have : mV v ≤ 2 := (by unfold mV; split <;> decide); omega), nxt (at_lt hx) ⟨e2.trans (Ext.new hl _), ?_, by rw [List.length_append, ly]; rfl⟩⟩⟩⟩
          rw [take_snoc hy, List.map_append]
          exact (dd.ext (Ext.new hl _)).app (.cons (.lst upd_same (.cons (.str y) .nil)) .nil)
        · rintro ys H2 ⟨e2, dd, ly⟩ l hl
          rw [List.length_map, List.take_of_length_le (Nat.le_refl _)] at dd
          exact q _ _ (e2.trans (Ext.new hl _)) (.lst upd_same (dd.ext (Ext.new hl _)))⟩
  have b5 : PSx (LwX P w K mg base f cdv A outer s H0 E) (lwS 5) _ := ⟨(ps_set (i := 7) scLaw.nd rfl (Or.inl rfl) (pe_tup (pa_cons (pe_callTy call_list_of rfl mL boot_list' (pa_cons (pv 3) pa_nil)) (pa_cons (pe_lc (N := laN) (sc := defScope sLaw) (N' := ["_law_row"]) (sub := [none]) rfl rfl (CmpOk.of (by decide +kernel)) rfl (pi_list (pv 4)) (fun C s H fp => ⟨pg_name (i := 0) (by show (["_law_row"] : List Str).Nodup; decide) rfl (Or.inl rfl), pts_nil, pe_callTy (show CallR _ _ (fun xs H Q => ∃ p ys, xs = [V.ref p] ∧ (SqL K H p ys ∨ SqT K H p ys) ∧ ∀ l, H l = none → Q (.ref l) (upd H l (.lst ys))) from call_list_of) rfl mL boot_list' (pa_cons (pv 0) pa_nil)⟩)) pa_nil))))⟩
  have b6 : PSx (LwX P w K mg base f cdv A outer s H0 E) (lwS 6) _ := ⟨(ps_for PassesOwn.never rfl (pi_range1 rfl mr (pa_cons pe_int pa_nil)) (pg_name (i := 8) scLaw.nd rfl (Or.inl rfl)) (pss_cons (ps_set (i := 9) scLaw.nd rfl (Or.inl rfl) (pe_call G4 hr6 rfl mG4 kG4 bG4 .nil pass0 (pa_cons (pv 7) pa_nil))) (pss_cons (ps_if (PW.pt (pw_or (pt_not (pt_val (pe_callB call_isinst rfl mi boot_isinst (pa_cons (pv 9) (pa_cons (pe_bltn (v := .ty "list") rfl mL boot_list' rfl) pa_nil))))) (pw_or (pt_cmpR (op_neD (room64 hr)) (pv 9) (pe_lst (pa_cons (pv 6) pa_nil)) (nomark _)) (pw_or1 (pt_cmpR (op_neD (room64 hr)) (pv 7) (pv 5) (nomark _)))))) (pss_one (ps_ret pe_bl)) pss_nil) (pss_cons (ps_cutE (ps_if (PW.pt (pw_and (pt_cmpR op_eq (pe_op op_mod (pv 2) pe_int) pe_int (nomark _)) (pw_and1 (pt_cmpR (op_neD (room64 hr)) (pe_call G5 hr4 rfl mG5 kG5 bG5 .nil pass0 (pa_cons (pv 7) (pa_cons (pe_ix ix_tup (pe_ix ix_list (pv 9) pe_int (fun _ _ => rfl)) pe_int (fun _ _ => rfl)) pa_nil))) (pe_tup (pa_cons (pv 3) (pa_cons (pe_lst (pa_cons (pv 3) pa_nil)) pa_nil))) (nomark _))))) (pss_one (ps_ret pe_bl)) pss_nil)) (pss_cons (ps_expr (pe_bm PySem.F.plainAttrs_list PySem.F.slot_list_append PySem.F.type_list_append mt_append (pe_ix ix_list (pe_ix ix_tup (pe_ix ix_list (pv 9) pe_int (fun _ _ => rfl)) pe_int (fun _ _ => rfl)) pe_int (fun _ _ => rfl)) (pa_cons pe_str pa_nil))) (pss_cons (ps_expr (pe_bm PySem.F.plainAttrs_list PySem.F.slot_list_append PySem.F.type_list_append mt_append (pe_ix ix_tup (pe_ix ix_list (pv 9) pe_int (fun _ _ => rfl)) pe_int (fun _ _ => rfl)) (pa_cons (pe_lst (pa_cons pe_str pa_nil)) pa_nil))) (pss_one (ps_expr (pe_bm0 PySem.F.plainAttrs_list PySem.F.slot_list_clear PySem.F.type_list_clear mt_clear (pv 9))))))))))⟩
  have R := px_cons b2 (px_cons b3 (px_cons b4 (px_cons b5 (px_one b6))))
  refine ⟨_, R, ?_⟩
  obtain ⟨ps0, hP0⟩ := My.TabW.tb tw
  have en3 : ∀ {x4 x5 x6 x7 x8 x9 : Option V} {H' : Hp}, Ext H H' → Env (stF a k b na x4 x5 x6 x7 x8 x9) H' [((3, rowD ss) : Nat × PyData)] := fun e => env_cons (v := .ref na) rfl (dh_strs (e _ _ hna)) env_nil
  refine ⟨en3 (Ext.refl _), fun vR H1 e1 dR => ?_⟩
  refine ⟨_, rfl, _, _, rfl, rfl, (by show (0 : Int) < _; decide), ?_⟩
  cases dR with
  | lst r1 r2 =>
  obtain ⟨rv, hrv, drv⟩ := r2.getD v (D := rdV ss v) (by rcases (show v = 0 ∨ v = 1 ∨ v = 2 by omega) with rfl | rfl | rfl <;> rfl)
  refine ⟨_, _, _, _, rfl, rfl, SqL.of r1, by rw [hbv]; exact atI_nat hrv, ?_⟩
  refine ⟨_, rfl, _, rfl, (by show 2 ≤ sizeLine; decide), fun tb htb => ?_⟩
  have n2 := Ext.new htb (.tup [V.ref na, rv])
  have E2 := e1.trans n2
  have dtb : Dh (upd H1 tb (.tup [V.ref na, rv])) (.ref tb) (.tuple [rowD ss, rdV ss v]) := .tup upd_same (.cons (dh_strs (E2 _ _ hna)) (.cons (drv.ext n2) .nil))
  have drv2 := drv.ext n2
  revert E2 dtb drv2
  generalize upd H1 tb (.tup [V.ref na, rv]) = H2
  intro E2 dtb drv2
  refine ⟨en3 E2, fun vD H3 e3 dD => ?_⟩
  refine ⟨_, rfl, _, _, rfl, rfl, (by show (0 : Int) < _; decide), ?_⟩
  cases dD with
  | lst d1 d2 =>
  obtain ⟨du, hdu, ddu⟩ := d2.getD v (D := ddV ss v) (by rcases (show v = 0 ∨ v = 1 ∨ v = 2 by omega) with rfl | rfl | rfl <;> rfl)
  refine ⟨_, _, _, _, rfl, rfl, SqL.of d1, by rw [hbv]; exact atI_nat hdu, ?_⟩
  have E3 := E2.trans e3
  refine ⟨_, rfl, na, _, rfl, .inl (SqL.of (E3 _ _ hna)), fun hn hhn => ?_⟩
  have n4 := Ext.new hhn (.lst (ss.map V.str))
  have drv4 := (drv2.ext e3).ext n4
  cases drv4 with
  | lst w1 w2 =>
  obtain ⟨as, rfl, pas⟩ := rows_dhs w2
  refine ⟨_, rfl, _, rfl, ⟨_, SqL.of w1⟩, ?_⟩
  have lm : mV v ≤ 2 := by unfold mV; split <;> decide
  have lrw : (rowsV ss v).length ≤ 3 := rows_len
  have las : as.length = (rowsV ss v).length := pas.length
  refine turns_list (xs := as.map V.ref) (fun j ys H5 => Ext (upd H3 hn (.lst (ss.map V.str))) H5 ∧ ∃ cs : List Addr, ys = cs.map V.ref ∧ Paired (fun a r => LsS H5 a r) cs ((rowsV ss v).take j)) ⟨Ext.refl _, [], rfl, .nil⟩ (fun j ys H5 _ h => SqL.of (h.1 _ _ w1)) ?_ ?_
  · rintro j x ys H5 hx ⟨e5, cs, rfl, pc⟩
    obtain ⟨x, rfl, hx'⟩ := ref_get hx
    obtain ⟨r, hr', hxr⟩ := paired_get pas hx'
    have hj := at_lt hr'
    have lc := pc.length
    rw [List.length_take] at lc
    refine ⟨Sle.set _ (Sle.refl _) (fun u z => by cases z), iteT (B := False) ⟨_, rfl, x, _, rfl, .inl (SqL.of (e5 _ _ hxr)), fun l hl => ⟨by rw [List.length_map]; exact small1000 (by omega), nxt (at_lt hx) ⟨e5.trans (Ext.new hl _), cs ++ [l], by rw [List.map_append]; rfl, ?_⟩⟩⟩⟩
    rw [take_snoc hr']
    exact Paired.snoc (Paired.mapP pc fun a t z => (Ext.new hl _) _ _ z) upd_same
  rintro ys H5 ⟨e5, cs, rfl, pc⟩ hrr hhrr
  rw [List.length_map, las, List.take_of_length_le (Nat.le_refl _)] at pc
  have n6 := Ext.new hhrr (.lst (cs.map V.ref))
  refine ⟨(by show 2 ≤ sizeLine; decide), fun ha hha => ?_⟩
  have n7 := Ext.new hha (.tup [V.ref hn, V.ref hrr])
  have E47 := n4.trans (e5.trans (n6.trans n7))
  have E7 := E3.trans E47
  have dHa : Dh (upd (upd H5 hrr (.lst (cs.map V.ref))) ha (.tup [V.ref hn, V.ref hrr])) (.ref ha) (.tuple [rowD ss, rdV ss v]) :=
    .tup upd_same (.cons (dh_strs ((e5.trans (n6.trans n7)) _ _ upd_same)) (.cons (.lst (n7 _ _ upd_same) (dhs_rows (Paired.mapP pc fun a t z => (n6.trans n7) _ _ z))) .nil))
  have dTb := (dtb.ext e3).ext E47
  have dDu := ddu.ext E47
  have hNa := E7 _ _ hna
  have tw7 := My.TabW.extE tw E7
  revert E7 dHa dTb dDu hNa tw7
  generalize upd (upd H5 hrr (.lst (cs.map V.ref))) ha (.tup [V.ref hn, V.ref hrr]) = H7
  intro E7 dHa dTb dDu hNa tw7
  obtain ⟨ps7, hP7⟩ := My.TabW.tb tw7
  refine ⟨2, rfl, by decide, by decide, ?_⟩
  refine for_range (lo := 0) (n := 2) (fun j σ H' => ∃ y4 y8 y9 : Option V, σ = stF a k b na y4 (some (.ref tb)) (some du) (some (.ref ha)) y8 y9 ∧ ExtB Pt H7 H' ∧ TabW H' Pt lpP qL) ⟨_, _, _, rfl, fun _ _ _ h => h, tw7⟩ ?_ ?_
  · rintro j σ H' hj ⟨y4, y8, y9, rfl, eB, tw'⟩
    have dHa' := Dh.extB hP7 eB dHa
    obtain ⟨ps', hP'⟩ := My.TabW.tb tw'
    refine ⟨_, rfl, ha, ss, rowsV ss v, mV v, SV v, rfl, TabIn.of dHa', by omega, ls, cs_v hv, red_v hv ls, tw', fun L T' G gs H8 eB8 L0 T'0 hL hT' gr tw8 => ?_⟩
    obtain ⟨ps8, hP8⟩ := My.TabW.tb tw8
    have dHa8 := Dh.extB hP' eB8 dHa'
    have dTb8 := Dh.extB hP' eB8 (Dh.extB hP7 eB dTb)
    have dDu8 := Dh.extB hP' eB8 (Dh.extB hP7 eB dDu)
    have dNa8 : Dh H8 (.ref na) (rowD ss) := Dh.extB hP' eB8 (Dh.extB hP7 eB (dh_strs hNa))
    have prs : Paired (fun a r => LsS H8 a r) gs ((Gs (mV v)).map (rowM ss)) := Paired.mapP gr.rs fun a t z => z.1
    have dFo : Dh H8 (.ref L) (.list [ddV ss v]) := by
      rw [← found_v hv ls]
      exact .lst hL (.cons (.tup hT' (.cons (.str _) (.cons (.lst gr.g (dhs_rows prs)) .nil))) .nil)
    have lyD := ly_dd (v := v) nmd
    have lyL : Ly (.list [ddV ss v]) 5 := ly_lst (k := 4) (lyc lyD ly0)
    have lyT : Ly (.tuple [rowD ss, rdV ss v]) 3 := ly_tup (k := 2) (lyc ((ly_row nmd).mono (by decide)) (lyc (ly_rd nmd) ly0))
    refine ⟨_, rfl, _, _, _, true, rfl, .lst hL, kit_same _ _, true, rfl, iteF ?_⟩
    refine ⟨_, rfl, _, rfl, (by show 1 ≤ sizeLine; decide), fun l1 hl1 => ?_⟩
    have n9 := Ext.new hl1 (.lst [du])
    refine ⟨_, _, (dFo.ext n9).dr, (Dh.lst upd_same (.cons (dDu8.ext n9) .nil)).dr, lyL.sh (by decide), lyL.sh (by decide), _, rfl, ?_⟩
    rw [lyL.eq]
    refine iteF ?_
    refine ⟨_, rfl, _, rfl, _, _, (dHa8.ext n9).dr, (dTb8.ext n9).dr, lyT.sh (by decide), lyT.sh (by decide), _, rfl, ?_⟩
    rw [lyT.eq]
    refine iteF ?_
    have hL9 := n9 _ _ hL
    have hT9 := n9 _ _ hT'
    have hG9 := n9 _ _ gr.g
    have tw9 := My.TabW.extE tw8 n9
    have dHa9 := dHa8.ext n9
    have dNa9 := dNa8.ext n9
    have prs9 := Paired.mapP prs fun a t z => n9 _ _ z
    have eB9 : ExtB Pt H7 (upd H8 l1 (.lst [du])) := (eB.trans eB8).trans n9.toB
    revert hL9 hT9 hG9 tw9 dHa9 dNa9 prs9 eB9
    generalize upd H8 l1 (.lst [du]) = H9
    intro hL9 hT9 hG9 tw9 dHa9 dNa9 prs9 eB9
    refine ⟨fun σ' H10 => σ' = stF a k b na y4 (some (.ref tb)) (some du) (some (.ref ha)) (some (.int (0 + (j : Nat)))) (some (.ref L)) ∧ Ext H9 H10, ?_, ?_⟩
    · refine ⟨_, rfl, _, _, rfl, rfl, (by show (0 : Int) < _; decide), rfl, _, rfl, ite2 (fun c => ?_) (fun c => iteF ⟨rfl, Ext.refl _⟩)⟩
      have v2 : v = 2 := by
        have : b % 3 = 2 := by simpa using c
        omega
      subst v2
      obtain ⟨a1, b1, rfl⟩ : ∃ a1 b1, ss = [a1, b1] := by
        rcases len_v hv ls with ⟨z, _⟩ | ⟨_, z⟩
        · omega
        · exact z
      have ne1 : a1 ≠ b1 := fun z => by rw [z] at nd; simp at nd
      have prs2 : Paired (fun a r => LsS H9 a r) gs [[a1], [b1]] := by
        have := prs9
        rw [show (Gs (mV 2)).map (rowM [a1, b1]) = [[a1], [b1]] from row21 a1 b1] at this
        exact this
      refine ⟨_, rfl, _, rfl, L, _, _, _, rfl, rfl, SqL.of hL9, (by exact atI_nat (j := 0) rfl), T', _, _, _, rfl, rfl, SqT.of hT9, (by exact atI_nat (j := 1) rfl), ha, G, gs, a1, b1, rowsV [a1, b1] 2, rfl, TabIn.of dHa9, by omega, red_v hv ls, ne1, hG9, prs2, fun T2 H10 e10 ti2 => ?_⟩
      have lyN : Ly (.tuple [rowD [a1, b1], .list ([[a1, b1]].map rowD)]) 3 := ly_tup (k := 2) (lyc ((ly_row nmd).mono (by decide)) (lyc (ly_lst (k := 1) (lyc (ly_row nmd) ly0)) ly0))
      refine ⟨_, rfl, _, rfl, (by show 1 ≤ sizeLine; decide), fun l2 hl2 => ⟨(by show 2 ≤ sizeLine; decide), fun t2 ht2 => ?_⟩⟩
      have n11 := Ext.new hl2 (.lst [V.ref na])
      have n12 := Ext.new ht2 (.tup [V.ref na, V.ref l2])
      have dN2 : Dh (upd (upd H10 l2 (.lst [V.ref na])) t2 (.tup [V.ref na, V.ref l2])) (.ref t2) (.tuple [rowD [a1, b1], .list ([[a1, b1]].map rowD)]) :=
        .tup upd_same (.cons ((dNa9.ext e10).ext (n11.trans n12)) (.cons (.lst (n12 _ _ upd_same) (.cons ((dNa9.ext e10).ext (n11.trans n12)) .nil)) .nil))
      refine ⟨_, _, (ti2.dh.ext (n11.trans n12)).dr, dN2.dr, lyN.sh (by decide), lyN.sh (by decide), _, rfl, ?_⟩
      rw [lyN.eq]
      exact iteF ⟨rfl, e10.trans (n11.trans n12)⟩
    · rintro σ' H10 ⟨rfl, e10⟩
      have hL10 := e10 _ _ hL9
      have hT10 := e10 _ _ hT9
      have hG10 := e10 _ _ hG9
      obtain ⟨g, gs', r0, rs', rfl, er, hg10⟩ : ∃ g gs' r0 rs', gs = g :: gs' ∧ (Gs (mV v)).map (rowM ss) = r0 :: rs' ∧ LsS H10 g r0 := by
        have lgs : gs.length = mV v := by rw [prs9.length, List.length_map, Gs_len (cs_v hv).m12]
        have : 1 ≤ mV v := by unfold mV; split <;> decide
        cases hgs : gs with
        | nil => rw [hgs] at lgs; simp at lgs; omega
        | cons g gs' =>
          rw [hgs] at prs9
          cases hrr : (Gs (mV v)).map (rowM ss) with
          | nil => rw [hrr] at prs9; cases prs9
          | cons r0 rs' =>
            rw [hrr] at prs9
            cases prs9 with
            | cons z _ => exact ⟨g, gs', r0, rs', rfl, rfl, e10 _ _ z⟩
      have tw10 := My.TabW.extE tw9 e10
      have eB10 : ExtB Pt H7 H10 := eB9.trans e10.toB
      have nn : ∀ {x : Addr}, H' x = none → H7 x = none := fun {x} z => My.ExtB.nn eB hP' z
      have gL : g ≠ L := ne_of hg10 hL10 (fun z => by have := HO.lst.inj z; cases r0 <;> simp at this)
      have gG : g ≠ G := ne_of hg10 hG10 (fun z => by have := HO.lst.inj z; cases r0 <;> simp at this)
      have gT : g ≠ T' := ne_of hg10 hT10 (fun z => by cases z)
      have g0 : H' g = none := by
        have := gr.rs
        rw [er] at this
        cases this with
        | cons z _ => exact z.2
      have lr0 : r0.length ≤ 12 := by
        have : r0 ∈ (Gs (mV v)).map (rowM ss) := by rw [er]; exact List.mem_cons_self
        obtain ⟨x, _, rfl⟩ := List.mem_map.mp this
        unfold rowM
        refine Nat.le_trans (List.length_filterMap_le _ _) ?_
        rw [List.length_range]; omega
      refine ⟨_, rfl, L, _, _, _, rfl, rfl, SqL.of hL10, (by exact atI_nat (j := 0) rfl), T', _, _, _, rfl, rfl, SqT.of hT10, (by exact atI_nat (j := 1) rfl), G, _, _, _, rfl, rfl, SqL.of hG10, (by exact atI_nat (j := 0) rfl), (show tyV _ _ (.ref g) _ from Or.inl ⟨rfl, _, SqL.of hg10⟩), g, _, _, rfl, rfl, hg10, by rw [List.length_map]; exact small1000 (by omega), ?_⟩
      have hL11 : upd H10 g (.lst (r0.map V.str ++ [V.str "zz"])) L = some (.lst [.ref T']) := by rw [upd_ne (Ne.symm gL)]; exact hL10
      have hT11 : upd H10 g (.lst (r0.map V.str ++ [V.str "zz"])) T' = some (.tup [.str (kiF (mV v) (SV v)), .ref G]) := by rw [upd_ne (Ne.symm gT)]; exact hT10
      have hG11 : upd H10 g (.lst (r0.map V.str ++ [V.str "zz"])) G = some (.lst ((g :: gs').map V.ref)) := by rw [upd_ne (Ne.symm gG)]; exact hG10
      have tw11 := My.TabW.put tw10 hg10 (.lst (r0.map V.str ++ [V.str "zz"]))
      have eB11 := My.ExtB.over eB10 (nn g0) (.lst (r0.map V.str ++ [V.str "zz"]))
      revert hL11 hT11 hG11 tw11 eB11
      generalize upd H10 g (.lst (r0.map V.str ++ [V.str "zz"])) = H11
      intro hL11 hT11 hG11 tw11 eB11
      refine ⟨_, rfl, L, _, _, _, rfl, rfl, SqL.of hL11, (by exact atI_nat (j := 0) rfl), T', _, _, _, rfl, rfl, SqT.of hT11, (by exact atI_nat (j := 1) rfl), (show tyV _ _ (.ref G) _ from Or.inl ⟨rfl, _, SqL.of hG11⟩), (by show 1 ≤ sizeLine; decide), fun l3 hl3 => ?_⟩
      have n12 := Ext.new hl3 (.lst [V.str "zz"])
      have lgs2 : (g :: gs').length ≤ 2 := by rw [prs9.length, List.length_map, Gs_len (cs_v hv).m12]; exact lm
      refine ⟨G, _, _, rfl, rfl, n12 _ _ hG11, by rw [List.length_map]; exact small1000 (by omega), ?_⟩
      have GL : G ≠ L := ne_of hG11 hL11 (fun z => by
        have := HO.lst.inj z
        have e1 : g = T' ∧ gs' = [] := by simpa using this
        exact gT e1.1)
      have hL13 : upd (upd H11 l3 (.lst [V.str "zz"])) G (.lst ((g :: gs').map V.ref ++ [V.ref l3])) L = some (.lst [.ref T']) := by rw [upd_ne (Ne.symm GL)]; exact n12 _ _ hL11
      have tw13 := My.TabW.put (My.TabW.extE tw11 n12) (n12 _ _ hG11) (.lst ((g :: gs').map V.ref ++ [V.ref l3]))
      have eB13 := My.ExtB.over (eB11.trans n12.toB) (nn gr.g0) (.lst ((g :: gs').map V.ref ++ [V.ref l3]))
      refine ⟨_, rfl, .inl ⟨rfl, _, SqL.of hL13⟩, L, _, rfl, rfl, hL13, ?_⟩
      exact ⟨_, _, _, rfl, My.ExtB.over eB13 (nn L0) _, My.TabW.put tw13 hL13 _⟩
  · rintro σ H' ⟨y4, y8, y9, rfl, eB, tw'⟩
    exact qn _ _ _ _ _ _ H' (E7.toB.trans eB) tw'
end
end My
namespace My
open PySem L2
def spLaw (K : PySem.W.Frag) (Pt : Addr) : Sp := fun vs H Q _ => ∃ (a : Addr) (ns : List Int), vs = [.ref a] ∧ SqL K H a (ns.map V.int) ∧ ns.length ≤ 63 ∧ H Pt = some (.tbl #[]) ∧ ∀ H', Q (.bl true) H'
section
variable {P : Program} {w : World} {K : PySem.W.Frag} {mg : Str → Option Value} {base : Heap} {f f1 f2 f3 f4 f5 Pt : Addr} {fd fd1 fd2 fd3 fd4 fd5 : FuncData}
set_option maxHeartbeats 8000000 in
theorem ok_law (F : Fun K "law" "law" sLaw f fd)
    (G1 : FnOk P w K mg base CX0 2 f1 fd1 ["_law_script", "_law_k"] (spBig K)) (bG1 : Binds K fd1 ["_law_script", "_law_k"] []) (kG1 : PySem.W.keepIn K (.ref f1) = true) (mG1 : mg "_law_big" = some (.ref f1))
    (G2 : FnOk P w K mg base CX0 1 f2 fd2 ["_law_big_here", "_law_many"] spNames) (bG2 : Binds K fd2 ["_law_big_here", "_law_many"] []) (kG2 : PySem.W.keepIn K (.ref f2) = true) (mG2 : mg "_law_names" = some (.ref f2))
    (G4 : FnOk P w K mg base CX0 6 f4 fd4 ["table"] (spParts Pt)) (bG4 : Binds K fd4 ["table"] []) (kG4 : PySem.W.keepIn K (.ref f4) = true) (mG4 : mg "parts" = some (.ref f4))
    (G5 : FnOk P w K mg base CX0 4 f5 fd5 ["table", "share"] spPartT) (bG5 : Binds K fd5 ["table", "share"] []) (kG5 : PySem.W.keepIn K (.ref f5) = true) (mG5 : mg "part_table" = some (.ref f5))
    (mL : mg "list" = none) (mr : mg "range" = none) (mi : mg "isinstance" = none) (mso : mg "sorted" = none) (mint : mg "int" = none) :
    FnOk P w K mg base CX0 7 f fd ["_law_script"] (spLaw K Pt) := by
  refine F.ok scLaw (fun vs H Q E h => ?_) (fun cdv A outer s H vs Q E hr h => ?_)
  · obtain ⟨a, ns, rfl, _⟩ := h
    rfl
  obtain ⟨a, ns, rfl, hS, hl, hP, q⟩ := h
  have hr2 := hr.mono (j := 2) (by decide)
  have hr1 := hr.mono (j := 1) (by decide)
  obtain ⟨q1, q2, q3, q4, q5, q6, q7, e⟩ := hbLaw
  rw [e]
  have b0 : PSx (LwX P w K mg base f cdv A outer s H E) (lwS 0) _ := ⟨(ps_set (i := 2) scLaw.nd rfl (Or.inl rfl) (pe_call G1 hr2 rfl mG1 kG1 bG1 .nil pass0 (pa_cons (pv 0) (pa_cons (pv 1) pa_nil))))⟩
  have b1 : PSx (LwX P w K mg base f cdv A outer s H E) (lwS 1) _ := ⟨(ps_set (i := 3) scLaw.nd rfl (Or.inl rfl) (pe_callB call_sortedS rfl mso boot_sorted' (pa_cons (pe_call G2 hr1 rfl mG2 kG2 bG2 .nil pass0 (pa_cons (pe_op op_fdiv (pv 2) pe_int) (pa_cons (pe_op op_add pe_int (pe_callTy call_int1 rfl mint boot_int' (pa_cons (pe_cmpR op_eq (pe_op op_mod (pv 2) pe_int) pe_int (nomark _)) pa_nil))) pa_nil))) pa_nil)))⟩
  have B := (px_cons b0 (px_cons b1 (lw_rest hr G4 bG4 kG4 mG4 G5 bG5 kG5 mG5 mL mr mi))).h
  refine ⟨_, pss_cons (ps_for PassesOwn.never rfl (pi_range1 rfl mr (pa_cons pe_int pa_nil)) (pg_name (i := 1) scLaw.nd rfl (Or.inl rfl)) B) (pss_one (ps_ret pe_bl)), ?_⟩
  try dsimp only [Cx.wish, cxOf]
  refine ⟨20, rfl, by decide, by decide, ?_⟩
  refine for_range (lo := 0) (n := 20) (fun j σ H' => ∃ k x2 x3 x4 x5 x6 x7 x8 x9 : Option V, σ = [some (.ref a), k, x2, x3, x4, x5, x6, x7, x8, x9] ∧ ExtB Pt H H' ∧ TabW H' Pt lpP qL) ⟨_, _, _, _, _, _, _, _, _, rfl, fun _ _ _ h => h, .inl hP⟩ ?_ ?_
  · rintro j σ H' hj ⟨k, x2, x3, x4, x5, x6, x7, x8, x9, rfl, eB, tw⟩
    refine ⟨_, rfl, _, rfl, a, ns, _, rfl, sq_B hP eB hS, by omega, by omega, fun b => ?_⟩
    have b3 := Int.emod_nonneg b (show (3 : Int) ≠ 0 by decide)
    have b3' := Int.emod_lt_of_pos b (show (0 : Int) < 3 by decide)
    obtain ⟨v, hv⟩ : ∃ v : Nat, b % 3 = (v : Int) := ⟨(b % 3).toNat, by omega⟩
    have n0 : (0 : Int) ≤ 1 + (if decide (V.int (b % 3) = V.int 2) = true then 1 else 0) := by split <;> decide
    have n1 : (1 : Int) + (if decide (V.int (b % 3) = V.int 2) = true then 1 else 0) ≤ 2 := by split <;> decide
    have nm : ((1 : Int) + (if decide (V.int (b % 3) = V.int 2) = true then 1 else 0)).toNat = mV v := by
      unfold mV
      rw [hv]
      rcases (show v = 0 ∨ v = 1 ∨ v = 2 by omega) with rfl | rfl | rfl <;> rfl
    refine ⟨_, rfl, _, _, rfl, rfl, ⟨by decide, by decide⟩, _, rfl, _, _, rfl, rfl, (by show (0 : Int) < _; decide), rfl, .inr ⟨_, rfl, _, _, rfl, rfl, _, _, rfl, n0, by omega, fun r ss H2 e2 _ ls len tx nd => ?_⟩⟩
    refine ⟨r, ss, rfl, SqL.of ls, by omega, fun r' ss' hn perm _ => ?_⟩
    have n3 := Ext.new hn (.lst (ss'.map V.str))
    refine ⟨a, r', _, b, ss', v, _, _, _, _, _, _, rfl, upd_same, fun s hs => tx s (perm.mem_iff.mp hs), (perm.nodup_iff).mpr (nd (by omega)), by rw [perm.length_eq, len, nm], hv, by omega, My.TabW.extE (My.TabW.extE tw e2) n3, fun y4 y5 y6 y7 y8 y9 H4 e4 t4 => ⟨_, _, _, _, _, _, _, _, _, rfl, (eB.trans (My.Ext.toB (e2.trans n3))).trans e4, t4⟩⟩
  · rintro σ H' ⟨k, x2, x3, x4, x5, x6, x7, x8, x9, rfl, eB, tw⟩
    exact q _
end
end My
namespace My
open PySem L2
theorem len1 {α : Type} {us : List α} (h : us.length = 1) : ∃ a, us = [a] := List.length_eq_one_iff.mp h
theorem len2 {α : Type} {us : List α} (h : us.length = 2) : ∃ a b, us = [a, b] := by
  match us, h with | [a, b], _ => exact ⟨a, b, rfl⟩
theorem len3 {α : Type} {us : List α} (h : us.length = 3) : ∃ a b c, us = [a, b, c] := by
  match us, h with | [a, b, c], _ => exact ⟨a, b, c, rfl⟩
theorem len4 {α : Type} {us : List α} (h : us.length = 4) : ∃ a b c d, us = [a, b, c, d] := by
  match us, h with | [a, b, c, d], _ => exact ⟨a, b, c, d, rfl⟩
set_option maxHeartbeats 16000000 in
theorem all_mk {l : PySem.W.OpenLaw} {w : World} {K : PySem.W.Frag} {h : Heap} {mg : Str → Option Value} {fa f1 f2 f3 f4 f5 f6 f7 f8 f9 f10 f11 f12 f13 f14 f15 f16 f17 f18 f19 f20 f21 f22 : Addr} (X : K.In h) (G : h.Ns mainGlobals mg) (hfa : mg "law" = some (.ref fa)) {c T : Addr} (ht : PySem.W.tabIn K "parts" = some (c, T))
    {od1 an1 od2 an2 od3 an3 od4 an4 od5 an5 od6 an6 od7 an7 od8 an8 od9 an9 od10 an10 od11 an11 od12 an12 od13 an13 od14 an14 od15 an15 od16 an16 od17 an17 od18 an18 od19 an19 od20 an20 od21 an21 od22 an22 : Option Addr} {sl1 sl2 sl3 sl4 sl5 sl6 sl7 sl8 sl9 sl10 sl11 sl12 sl13 sl14 sl15 sl16 sl17 sl18 sl19 sl20 sl21 sl22 : Array (Option Value)} {oc1 kV1 dc1 pm1 cd1 ct1 oc2 kV2 dc2 pm2 cd2 ct2 oc3 kV3 dc3 pm3 cd3 ct3 oc4 kV4 dc4 pm4 cd4 ct4 oc5 kV5 dc5 pm5 cd5 ct5 oc6 kV6 dc6 pm6 cd6 ct6 oc7 kV7 dc7 pm7 cd7 ct7 oc8 kV8 dc8 pm8 cd8 ct8 oc9 kV9 dc9 pm9 cd9 ct9 oc10 kV10 dc10 pm10 cd10 ct10 oc11 kV11 dc11 pm11 cd11 ct11 oc12 kV12 dc12 pm12 cd12 ct12 oc13 kV13 dc13 pm13 cd13 ct13 oc14 kV14 dc14 pm14 cd14 ct14 oc15 kV15 dc15 pm15 cd15 ct15 oc16 kV16 dc16 pm16 cd16 ct16 oc17 kV17 dc17 pm17 cd17 ct17 oc18 kV18 dc18 pm18 cd18 ct18 oc19 kV19 dc19 pm19 cd19 ct19 oc20 kV20 dc20 pm20 cd20 ct20 oc21 kV21 dc21 pm21 cd21 ct21 oc22 kV22 dc22 pm22 cd22 ct22 : Value}
    (a1 : PySem.W.nsIn K mainGlobals "mask_of" = some (some (.ref f1))) (l1 : K.lookup f1 = some ⟨oc1, od1, .func (PySem.W.fnOf "mask_of" "mask_of" (defArgs sMask) (defBody sMask) (defScope sMask) .none kV1 dc1 pm1 an1 cd1 ct1), sl1⟩) (c1 : PySem.W.codeIn K cd1 "mask_of" = true) (k1 : PySem.W.keepIn K (.ref f1) = true)
    (a2 : PySem.W.nsIn K mainGlobals "row_of" = some (some (.ref f2))) (l2 : K.lookup f2 = some ⟨oc2, od2, .func (PySem.W.fnOf "row_of" "row_of" (defArgs sRowOf) (defBody sRowOf) (defScope sRowOf) .none kV2 dc2 pm2 an2 cd2 ct2), sl2⟩) (c2 : PySem.W.codeIn K cd2 "row_of" = true) (k2 : PySem.W.keepIn K (.ref f2) = true)
    (a3 : PySem.W.nsIn K mainGlobals "lessened" = some (some (.ref f3))) (l3 : K.lookup f3 = some ⟨oc3, od3, .func (PySem.W.fnOf "lessened" "lessened" (defArgs sLess) (defBody sLess) (defScope sLess) .none kV3 dc3 pm3 an3 cd3 ct3), sl3⟩) (c3 : PySem.W.codeIn K cd3 "lessened" = true) (k3 : PySem.W.keepIn K (.ref f3) = true)
    (a4 : PySem.W.nsIn K mainGlobals "reduced" = some (some (.ref f4))) (l4 : K.lookup f4 = some ⟨oc4, od4, .func (PySem.W.fnOf "reduced" "reduced" (defArgs sRedu) (defBody sRedu) (defScope sRedu) .none kV4 dc4 pm4 an4 cd4 ct4), sl4⟩) (c4 : PySem.W.codeIn K cd4 "reduced" = true) (k4 : PySem.W.keepIn K (.ref f4) = true)
    (a5 : PySem.W.nsIn K mainGlobals "table_from" = some (some (.ref f5))) (l5 : K.lookup f5 = some ⟨oc5, od5, .func (PySem.W.fnOf "table_from" "table_from" (defArgs sTabF) (defBody sTabF) (defScope sTabF) .none kV5 dc5 pm5 an5 cd5 ct5), sl5⟩) (c5 : PySem.W.codeIn K cd5 "table_from" = true) (k5 : PySem.W.keepIn K (.ref f5) = true)
    (a6 : PySem.W.nsIn K mainGlobals "step_masks" = some (some (.ref f6))) (l6 : K.lookup f6 = some ⟨oc6, od6, .func (PySem.W.fnOf "step_masks" "step_masks" (defArgs sStepM) (defBody sStepM) (defScope sStepM) .none kV6 dc6 pm6 an6 cd6 ct6), sl6⟩) (c6 : PySem.W.codeIn K cd6 "step_masks" = true) (k6 : PySem.W.keepIn K (.ref f6) = true)
    (a7 : PySem.W.nsIn K mainGlobals "is_single" = some (some (.ref f7))) (l7 : K.lookup f7 = some ⟨oc7, od7, .func (PySem.W.fnOf "is_single" "is_single" (defArgs sSingle) (defBody sSingle) (defScope sSingle) .none kV7 dc7 pm7 an7 cd7 ct7), sl7⟩) (c7 : PySem.W.codeIn K cd7 "is_single" = true) (k7 : PySem.W.keepIn K (.ref f7) = true)
    (a8 : PySem.W.nsIn K mainGlobals "splits" = some (some (.ref f8))) (l8 : K.lookup f8 = some ⟨oc8, od8, .func (PySem.W.fnOf "splits" "splits" (defArgs sSplits) (defBody sSplits) (defScope sSplits) .none kV8 dc8 pm8 an8 cd8 ct8), sl8⟩) (c8 : PySem.W.codeIn K cd8 "splits" = true) (k8 : PySem.W.keepIn K (.ref f8) = true)
    (a9 : PySem.W.nsIn K mainGlobals "is_crossed" = some (some (.ref f9))) (l9 : K.lookup f9 = some ⟨oc9, od9, .func (PySem.W.fnOf "is_crossed" "is_crossed" (defArgs sCrossed) (defBody sCrossed) (defScope sCrossed) .none kV9 dc9 pm9 an9 cd9 ct9), sl9⟩) (c9 : PySem.W.codeIn K cd9 "is_crossed" = true) (k9 : PySem.W.keepIn K (.ref f9) = true)
    (a10 : PySem.W.nsIn K mainGlobals "share_masks" = some (some (.ref f10))) (l10 : K.lookup f10 = some ⟨oc10, od10, .func (PySem.W.fnOf "share_masks" "share_masks" (defArgs sShare) (defBody sShare) (defScope sShare) .none kV10 dc10 pm10 an10 cd10 ct10), sl10⟩) (c10 : PySem.W.codeIn K cd10 "share_masks" = true) (k10 : PySem.W.keepIn K (.ref f10) = true)
    (a11 : PySem.W.nsIn K mainGlobals "grown" = some (some (.ref f11))) (l11 : K.lookup f11 = some ⟨oc11, od11, .func (PySem.W.fnOf "grown" "grown" (defArgs sGrown) (defBody sGrown) (defScope sGrown) .none kV11 dc11 pm11 an11 cd11 ct11), sl11⟩) (c11 : PySem.W.codeIn K cd11 "grown" = true) (k11 : PySem.W.keepIn K (.ref f11) = true)
    (a12 : PySem.W.nsIn K mainGlobals "widths" = some (some (.ref f12))) (l12 : K.lookup f12 = some ⟨oc12, od12, .func (PySem.W.fnOf "widths" "widths" (defArgs sWidths) (defBody sWidths) (defScope sWidths) .none kV12 dc12 pm12 an12 cd12 ct12), sl12⟩) (c12 : PySem.W.codeIn K cd12 "widths" = true) (k12 : PySem.W.keepIn K (.ref f12) = true)
    (a13 : PySem.W.nsIn K mainGlobals "first_parting" = some (some (.ref f13))) (l13 : K.lookup f13 = some ⟨oc13, od13, .func (PySem.W.fnOf "first_parting" "first_parting" (defArgs sFirst) (defBody sFirst) (defScope sFirst) .none kV13 dc13 pm13 an13 cd13 ct13), sl13⟩) (c13 : PySem.W.codeIn K cd13 "first_parting" = true) (k13 : PySem.W.keepIn K (.ref f13) = true)
    (a14 : PySem.W.nsIn K mainGlobals "kind_of" = some (some (.ref f14))) (l14 : K.lookup f14 = some ⟨oc14, od14, .func (PySem.W.fnOf "kind_of" "kind_of" (defArgs sKind) (defBody sKind) (defScope sKind) .none kV14 dc14 pm14 an14 cd14 ct14), sl14⟩) (c14 : PySem.W.codeIn K cd14 "kind_of" = true) (k14 : PySem.W.keepIn K (.ref f14) = true)
    (a15 : PySem.W.nsIn K mainGlobals "parted" = some (some (.ref f15))) (l15 : K.lookup f15 = some ⟨oc15, od15, .func (PySem.W.fnOf "parted" "parted" (defArgs sParted) (defBody sParted) (defScope sParted) .none kV15 dc15 pm15 an15 cd15 ct15), sl15⟩) (c15 : PySem.W.codeIn K cd15 "parted" = true) (k15 : PySem.W.keepIn K (.ref f15) = true)
    (a16 : PySem.W.nsIn K mainGlobals "joined" = some (some (.ref f16))) (l16 : K.lookup f16 = some ⟨oc16, od16, .func (PySem.W.fnOf "joined" "joined" (defArgs sJoined) (defBody sJoined) (defScope sJoined) .none kV16 dc16 pm16 an16 cd16 ct16), sl16⟩) (c16 : PySem.W.codeIn K cd16 "joined" = true) (k16 : PySem.W.keepIn K (.ref f16) = true)
    (a17 : PySem.W.nsIn K mainGlobals "parts" = some (some (.ref f17))) (l17 : K.lookup f17 = some ⟨oc17, od17, .func (PySem.W.fnOf "parts" "parts" (defArgs sParts) (defBody sParts) (defScope sParts) .none kV17 dc17 pm17 an17 cd17 ct17), sl17⟩) (c17 : PySem.W.codeIn K cd17 "parts" = true) (k17 : PySem.W.keepIn K (.ref f17) = true)
    (a18 : PySem.W.nsIn K mainGlobals "part_table" = some (some (.ref f18))) (l18 : K.lookup f18 = some ⟨oc18, od18, .func (PySem.W.fnOf "part_table" "part_table" (defArgs sPartT) (defBody sPartT) (defScope sPartT) .none kV18 dc18 pm18 an18 cd18 ct18), sl18⟩) (c18 : PySem.W.codeIn K cd18 "part_table" = true) (k18 : PySem.W.keepIn K (.ref f18) = true)
    (a19 : PySem.W.nsIn K mainGlobals "_law_cell_at" = some (some (.ref f19))) (l19 : K.lookup f19 = some ⟨oc19, od19, .func (PySem.W.fnOf "_law_cell_at" "_law_cell_at" (defArgs sCell) (defBody sCell) (defScope sCell) .none kV19 dc19 pm19 an19 cd19 ct19), sl19⟩) (c19 : PySem.W.codeIn K cd19 "_law_cell_at" = true) (k19 : PySem.W.keepIn K (.ref f19) = true)
    (a20 : PySem.W.nsIn K mainGlobals "_law_big" = some (some (.ref f20))) (l20 : K.lookup f20 = some ⟨oc20, od20, .func (PySem.W.fnOf "_law_big" "_law_big" (defArgs sBig) (defBody sBig) (defScope sBig) .none kV20 dc20 pm20 an20 cd20 ct20), sl20⟩) (c20 : PySem.W.codeIn K cd20 "_law_big" = true) (k20 : PySem.W.keepIn K (.ref f20) = true)
    (a21 : PySem.W.nsIn K mainGlobals "_law_names" = some (some (.ref f21))) (l21 : K.lookup f21 = some ⟨oc21, od21, .func (PySem.W.fnOf "_law_names" "_law_names" (defArgs sNames) (defBody sNames) (defScope sNames) .none kV21 dc21 pm21 an21 cd21 ct21), sl21⟩) (c21 : PySem.W.codeIn K cd21 "_law_names" = true) (k21 : PySem.W.keepIn K (.ref f21) = true)
    (a22 : PySem.W.nsIn K mainGlobals "law" = some (some (.ref f22))) (l22 : K.lookup f22 = some ⟨oc22, od22, .func (PySem.W.fnOf "law" "law" (defArgs sLaw) (defBody sLaw) (defScope sLaw) .none kV22 dc22 pm22 an22 cd22 ct22), sl22⟩) (c22 : PySem.W.codeIn K cd22 "law" = true) (k22 : PySem.W.keepIn K (.ref f22) = true)
    (z1 : PySem.W.nsIn K mainGlobals "range" = some none)
    (z2 : PySem.W.nsIn K mainGlobals "len" = some none)
    (z3 : PySem.W.nsIn K mainGlobals "list" = some none)
    (z4 : PySem.W.nsIn K mainGlobals "sorted" = some none)
    (z5 : PySem.W.nsIn K mainGlobals "min" = some none)
    (z6 : PySem.W.nsIn K mainGlobals "enumerate" = some none)
    (z7 : PySem.W.nsIn K mainGlobals "sum" = some none)
    (z8 : PySem.W.nsIn K mainGlobals "reversed" = some none)
    (z9 : PySem.W.nsIn K mainGlobals "isinstance" = some none)
    (z10 : PySem.W.nsIn K mainGlobals "int" = some none)
    (z11 : PySem.W.nsIn K mainGlobals "abs" = some none)
    : ∃ fd : FuncData, (∀ (s : Shared) (v : Value), BindsTo s fd ⟨[v], []⟩ [("_law_script", v)]) ∧ ∀ base : Heap, K.In base → base.Ns mainGlobals mg → PySem.W.CodeHd base c T → base.BuiltinsAt mg T → FnOk l.prog w K mg base CX0 7 fa fd ["_law_script"] (spLaw K T) := by
  have e := hfa.symm.trans (PySem.W.mg_of X G a22)
  cases e
  have F1 := fun_mk (st := sMask) l1 c1 k1
  have F2 := fun_mk (st := sRowOf) l2 c2 k2
  have F3 := fun_mk (st := sLess) l3 c3 k3
  have F4 := fun_mk (st := sRedu) l4 c4 k4
  have F5 := fun_mk (st := sTabF) l5 c5 k5
  have F6 := fun_mk (st := sStepM) l6 c6 k6
  have F7 := fun_mk (st := sSingle) l7 c7 k7
  have F8 := fun_mk (st := sSplits) l8 c8 k8
  have F9 := fun_mk (st := sCrossed) l9 c9 k9
  have F10 := fun_mk (st := sShare) l10 c10 k10
  have F11 := fun_mk (st := sGrown) l11 c11 k11
  have F12 := fun_mk (st := sWidths) l12 c12 k12
  have F13 := fun_mk (st := sFirst) l13 c13 k13
  have F14 := fun_mk (st := sKind) l14 c14 k14
  have F15 := fun_mk (st := sParted) l15 c15 k15
  have F16 := fun_mk (st := sJoined) l16 c16 k16
  have F17 := fun_mk (st := sParts) l17 c17 k17
  have F18 := fun_mk (st := sPartT) l18 c18 k18
  have F19 := fun_mk (st := sCell) l19 c19 k19
  have F20 := fun_mk (st := sBig) l20 c20 k20
  have F21 := fun_mk (st := sNames) l21 c21 k21
  have F22 := fun_mk (st := sLaw) l22 c22 k22
  have b1 := F1.binds (ps := ["names", "row"]) fun _ _ _ _ _ _ us hl => by obtain ⟨_, _, rfl⟩ := len2 hl; rfl
  have m1 := PySem.W.mg_of X G a1
  have b2 := F2.binds (ps := ["names", "mask"]) fun _ _ _ _ _ _ us hl => by obtain ⟨_, _, rfl⟩ := len2 hl; rfl
  have m2 := PySem.W.mg_of X G a2
  have b3 := F3.binds (ps := ["mask", "kept"]) fun _ _ _ _ _ _ us hl => by obtain ⟨_, _, rfl⟩ := len2 hl; rfl
  have m3 := PySem.W.mg_of X G a3
  have b4 := F4.binds (ps := ["masks"]) fun _ _ _ _ _ _ us hl => by obtain ⟨_, rfl⟩ := len1 hl; rfl
  have m4 := PySem.W.mg_of X G a4
  have b5 := F5.binds (ps := ["names", "masks"]) fun _ _ _ _ _ _ us hl => by obtain ⟨_, _, rfl⟩ := len2 hl; rfl
  have m5 := PySem.W.mg_of X G a5
  have b6 := F6.binds (ps := ["table"]) fun _ _ _ _ _ _ us hl => by obtain ⟨_, rfl⟩ := len1 hl; rfl
  have m6 := PySem.W.mg_of X G a6
  have b7 := F7.binds (ps := ["mask"]) fun _ _ _ _ _ _ us hl => by obtain ⟨_, rfl⟩ := len1 hl; rfl
  have m7 := PySem.W.mg_of X G a7
  have b8 := F8.binds (ps := ["steps", "one", "rest", "met"]) fun _ _ _ _ _ _ us hl => by obtain ⟨_, _, _, _, rfl⟩ := len4 hl; rfl
  have m8 := PySem.W.mg_of X G a8
  have b9 := F9.binds (ps := ["steps", "even", "group"]) fun _ _ _ _ _ _ us hl => by obtain ⟨_, _, _, rfl⟩ := len3 hl; rfl
  have m9 := PySem.W.mg_of X G a9
  have b10 := F10.binds (ps := ["steps", "groups"]) fun _ _ _ _ _ _ us hl => by obtain ⟨_, _, rfl⟩ := len2 hl; rfl
  have m10 := PySem.W.mg_of X G a10
  have b11 := F11.binds (ps := ["base", "column"]) fun _ _ _ _ _ _ us hl => by obtain ⟨_, _, rfl⟩ := len2 hl; rfl
  have m11 := PySem.W.mg_of X G a11
  have b12 := F12.binds (ps := ["steps", "many"]) fun _ _ _ _ _ _ us hl => by obtain ⟨_, _, rfl⟩ := len2 hl; rfl
  have m12 := PySem.W.mg_of X G a12
  have b13 := F13.binds (ps := ["steps", "many"]) fun _ _ _ _ _ _ us hl => by obtain ⟨_, _, rfl⟩ := len2 hl; rfl
  have m13 := PySem.W.mg_of X G a13
  have b14 := F14.binds (ps := ["steps", "many"]) fun _ _ _ _ _ _ us hl => by obtain ⟨_, _, rfl⟩ := len2 hl; rfl
  have m14 := PySem.W.mg_of X G a14
  have b15 := F15.binds (ps := ["steps", "groups"]) fun _ _ _ _ _ _ us hl => by obtain ⟨_, _, rfl⟩ := len2 hl; rfl
  have m15 := PySem.W.mg_of X G a15
  have b16 := F16.binds (ps := ["found", "whole"]) fun _ _ _ _ _ _ us hl => by obtain ⟨_, _, rfl⟩ := len2 hl; rfl
  have m16 := PySem.W.mg_of X G a16
  have b17 := F17.binds (ps := ["table"]) fun _ _ _ _ _ _ us hl => by obtain ⟨_, rfl⟩ := len1 hl; rfl
  have m17 := PySem.W.mg_of X G a17
  have b18 := F18.binds (ps := ["table", "share"]) fun _ _ _ _ _ _ us hl => by obtain ⟨_, _, rfl⟩ := len2 hl; rfl
  have m18 := PySem.W.mg_of X G a18
  have b19 := F19.binds (ps := ["_law_script", "_law_k"]) fun _ _ _ _ _ _ us hl => by obtain ⟨_, _, rfl⟩ := len2 hl; rfl
  have m19 := PySem.W.mg_of X G a19
  have b20 := F20.binds (ps := ["_law_script", "_law_k"]) fun _ _ _ _ _ _ us hl => by obtain ⟨_, _, rfl⟩ := len2 hl; rfl
  have m20 := PySem.W.mg_of X G a20
  have b21 := F21.binds (ps := ["_law_big_here", "_law_many"]) fun _ _ _ _ _ _ us hl => by obtain ⟨_, _, rfl⟩ := len2 hl; rfl
  have m21 := PySem.W.mg_of X G a21
  have n_range := PySem.W.mg_none_of X G z1
  have n_len := PySem.W.mg_none_of X G z2
  have n_list := PySem.W.mg_none_of X G z3
  have n_sorted := PySem.W.mg_none_of X G z4
  have n_min := PySem.W.mg_none_of X G z5
  have n_enumerate := PySem.W.mg_none_of X G z6
  have n_sum := PySem.W.mg_none_of X G z7
  have n_reversed := PySem.W.mg_none_of X G z8
  have n_isinstance := PySem.W.mg_none_of X G z9
  have n_int := PySem.W.mg_none_of X G z10
  have n_abs := PySem.W.mg_none_of X G z11
  refine ⟨PySem.W.fnOf "law" "law" (defArgs sLaw) (defBody sLaw) (defScope sLaw) .none kV22 dc22 pm22 an22 cd22 ct22, fun s v => .of_eq rfl, fun base _ _ hC hB => ?_⟩
  have h1 := ok_maskI (P := l.prog) (w := w) (mg := mg) (base := base) F1
  have g1 := ok_mask (P := l.prog) (w := w) (mg := mg) (base := base) F1  
  have g2 := ok_rowOf (P := l.prog) (w := w) (base := base) F2  n_len n_enumerate
  have g3 := ok_less (P := l.prog) (w := w) (base := base) F3  n_min
  have g4 := ok_redu (P := l.prog) (w := w) (base := base) F4 g3 b3 k3 m3 n_min n_sorted
  have g5 := ok_tabF (P := l.prog) (w := w) (base := base) F5 g2 b2 k2 m2 g4 b4 k4 m4 n_list
  have g6 := ok_stepM (P := l.prog) (w := w) (base := base) F6 g1 b1 k1 m1 g4 b4 k4 m4 
  have g7 := ok_single (P := l.prog) (w := w) (mg := mg) (base := base) F7  
  have g8 := ok_splits (P := l.prog) (w := w) (base := base) F8 g7 b7 k7 m7 n_len
  have g9 := ok_cro (P := l.prog) (w := w) (base := base) F9 g7 b7 k7 m7 
  have g10 := ok_share (P := l.prog) (w := w) (base := base) F10 g9 b9 k9 m9 h1 b1 k1 m1 g4 b4 k4 m4 
  have g11 := ok_grown (P := l.prog) (w := w) (base := base) F11 g3 b3 k3 m3 
  have g12 := ok_widths (P := l.prog) (w := w) (base := base) F12 g11 b11 k11 m11 n_range n_sum n_enumerate n_len
  have g13 := ok_first (P := l.prog) (w := w) (base := base) F13 g12 b12 k12 m12 g8 b8 k8 m8 n_range
  have g14 := ok_kind (P := l.prog) (w := w) (base := base) F14  n_len
  have g15 := ok_parted (P := l.prog) (w := w) (base := base) F15 g10 b10 k10 m10 g13 b13 k13 m13 g14 b14 k14 m14 n_len
  have g16 := ok_joined (P := l.prog) (w := w) (mg := mg) (base := base) F16  
  have g17 := ok_parts (P := l.prog) (w := w) (base := base) F17 (code_of F17 a17 ht) hC hB g16 b16 k16 m16 g15 b15 k15 m15 g6 b6 k6 m6 g2 b2 k2 m2 n_len n_range n_reversed n_sorted
  have g18 := ok_partt (P := l.prog) (w := w) (base := base) F18 g1 b1 k1 m1 g5 b5 k5 m5 g10 b10 k10 m10 g6 b6 k6 m6 
  have g19 := ok_cell (P := l.prog) (w := w) (base := base) F19  n_len
  have g20 := ok_big (P := l.prog) (w := w) (base := base) F20 g19 b19 k19 m19 n_range n_abs
  have g21 := ok_names (P := l.prog) (w := w) (base := base) F21  n_range n_len
  exact ok_law F22 g20 b20 k20 m20 g21 b21 k21 m21 g17 b17 k17 m17 g18 b18 k18 m18 n_list n_range n_isinstance n_sorted n_int
theorem walk {l : PySem.W.OpenLaw} {q : Program} {loose : List Str} {XP : (Str → Option Value) → Heap → Prop} {YP : World → Heap → Prop} {d dr : DefRec} {K : Params → PySem.W.Frag} (hn : l.most = some 63) (hdf : d.params.defaults = [])
    (hY : ∀ (w : World) (h : Heap), YP w h → (K w.params).In h) (hrec : (PyProof.Rows.recsOf q).find? (fun e => e.name == ("parts" : Str)) = some dr)
    (hK : ∀ w : World, ∃ c T, PySem.W.tabIn (K w.params) "parts" = some (c, T) ∧ PySem.W.noTabs (K w.params) = true)
    (F : ∀ (w : World) (mg : Str → Option Value) (fa : Addr) (h : Heap) (c T : Addr), (K w.params).In h → h.Ns mainGlobals mg → mg d.name = some (.ref fa) → PySem.W.tabIn (K w.params) "parts" = some (c, T) →
      ∃ fd : FuncData, (∀ (s : Shared) (u : Value), BindsTo s fd ⟨[u], []⟩ [("_law_script", u)]) ∧ ∀ base : Heap, (K w.params).In base → base.Ns mainGlobals mg → PySem.W.CodeHd base c T → base.BuiltinsAt mg T → FnOk l.prog w (K w.params) mg base CX0 7 fa fd ["_law_script"] (spLaw (K w.params) T)) :
    PySem.W.WalkO q loose XP YP l.row.toRowW d [] (fun f vs => PySem.call f vs) :=
  L2.walk_ofT (n := 63) (k := 7) (x := "_law_script") (CX := fun _ => CX0) (sp := fun w T => spLaw (K w.params) T) hn (by decide) hdf ⟨rfl, by decide, by decide, rfl⟩ hY hrec hK F (fun _ _ _ a ns hl hT hS => ⟨a, ns, rfl, hS, hl, hT, fun _ => rfl⟩) fun _ _ _ _ _ z => z
theorem tab_mk {K : PySem.W.Frag} {x : Str} {f c T : Addr} {ob ob2 : Obj} {fd : FuncData} {vs : Array Value} (a : PySem.W.nsIn K mainGlobals x = some (some (.ref f))) (l : K.lookup f = some ob) (e1 : ob.data = .func fd) (e2 : fd.code = .ref c) (l2 : K.lookup c = some ob2) (e3 : ob2.data = .fields vs) (e4 : (vs[11]? : Option Value) = some (.ref T)) : PySem.W.tabIn K x = some (c, T) := by
  obtain ⟨o1, o2, o3, o4⟩ := ob
  obtain ⟨p1, p2, p3, p4⟩ := ob2
  cases e1
  cases e3
  unfold PySem.W.tabIn
  rw [a]; dsimp only
  rw [l]; dsimp only
  rw [e2]; dsimp only
  rw [l2]; dsimp only
  rw [e4]
end My
open PySem PySem.W PyProof.Rows
set_option maxRecDepth 100000 in
set_option maxHeartbeats 0 in
theorem PySem.Challenge.cw_roundsalone_k30_small_parts_holds : PySem.Challenge.rw_roundsalone_k30_small_parts.Holds := by
  w_on; o_law; k_head; (case hw => w_witness2)
  k_fill
  refine' My.walk (l := PySem.Challenge.rw_roundsalone_k30_small_parts) rfl rfl (fun w h Y => PySem.W.km_in_of Y) ?hr ?Kt ?F
  case hr => rfl
  case Kt =>
    intro w
    refine' ⟨_, _, My.tab_mk ?a ?l ?e1 ?e2 ?l2 ?e3 ?e4, ?n⟩
    (case a => k_is)
    (case l => k_is)
    (case e1 => rfl)
    (case e2 => rfl)
    (case l2 => k_is)
    (case e3 => rfl)
    (case e4 => rfl)
    (case n => kernel_rfl)
  case F =>
    intro w mg fa h c T KX G hmg ht
    refine' My.all_mk KX G hmg ht ?a1 ?l1 ?c1 ?k1 ?a2 ?l2 ?c2 ?k2 ?a3 ?l3 ?c3 ?k3 ?a4 ?l4 ?c4 ?k4 ?a5 ?l5 ?c5 ?k5 ?a6 ?l6 ?c6 ?k6 ?a7 ?l7 ?c7 ?k7 ?a8 ?l8 ?c8 ?k8 ?a9 ?l9 ?c9 ?k9 ?a10 ?l10 ?c10 ?k10 ?a11 ?l11 ?c11 ?k11 ?a12 ?l12 ?c12 ?k12 ?a13 ?l13 ?c13 ?k13 ?a14 ?l14 ?c14 ?k14 ?a15 ?l15 ?c15 ?k15 ?a16 ?l16 ?c16 ?k16 ?a17 ?l17 ?c17 ?k17 ?a18 ?l18 ?c18 ?k18 ?a19 ?l19 ?c19 ?k19 ?a20 ?l20 ?c20 ?k20 ?a21 ?l21 ?c21 ?k21 ?a22 ?l22 ?c22 ?k22 ?z1 ?z2 ?z3 ?z4 ?z5 ?z6 ?z7 ?z8 ?z9 ?z10 ?z11
    (case a1 => k_is)
    (case l1 => k_is)
    (case c1 => k_is)
    (case k1 => k_is)
    (case a2 => k_is)
    (case l2 => k_is)
    (case c2 => k_is)
    (case k2 => k_is)
    (case a3 => k_is)
    (case l3 => k_is)
    (case c3 => k_is)
    (case k3 => k_is)
    (case a4 => k_is)
    (case l4 => k_is)
    (case c4 => k_is)
    (case k4 => k_is)
    (case a5 => k_is)
    (case l5 => k_is)
    (case c5 => k_is)
    (case k5 => k_is)
    (case a6 => k_is)
    (case l6 => k_is)
    (case c6 => k_is)
    (case k6 => k_is)
    (case a7 => k_is)
    (case l7 => k_is)
    (case c7 => k_is)
    (case k7 => k_is)
    (case a8 => k_is)
    (case l8 => k_is)
    (case c8 => k_is)
    (case k8 => k_is)
    (case a9 => k_is)
    (case l9 => k_is)
    (case c9 => k_is)
    (case k9 => k_is)
    (case a10 => k_is)
    (case l10 => k_is)
    (case c10 => k_is)
    (case k10 => k_is)
    (case a11 => k_is)
    (case l11 => k_is)
    (case c11 => k_is)
    (case k11 => k_is)
    (case a12 => k_is)
    (case l12 => k_is)
    (case c12 => k_is)
    (case k12 => k_is)
    (case a13 => k_is)
    (case l13 => k_is)
    (case c13 => k_is)
    (case k13 => k_is)
    (case a14 => k_is)
    (case l14 => k_is)
    (case c14 => k_is)
    (case k14 => k_is)
    (case a15 => k_is)
    (case l15 => k_is)
    (case c15 => k_is)
    (case k15 => k_is)
    (case a16 => k_is)
    (case l16 => k_is)
    (case c16 => k_is)
    (case k16 => k_is)
    (case a17 => k_is)
    (case l17 => k_is)
    (case c17 => k_is)
    (case k17 => k_is)
    (case a18 => k_is)
    (case l18 => k_is)
    (case c18 => k_is)
    (case k18 => k_is)
    (case a19 => k_is)
    (case l19 => k_is)
    (case c19 => k_is)
    (case k19 => k_is)
    (case a20 => k_is)
    (case l20 => k_is)
    (case c20 => k_is)
    (case k20 => k_is)
    (case a21 => k_is)
    (case l21 => k_is)
    (case c21 => k_is)
    (case k21 => k_is)
    (case a22 => k_is)
    (case l22 => k_is)
    (case c22 => k_is)
    (case k22 => k_is)
    (case z1 => k_is)
    (case z2 => k_is)
    (case z3 => k_is)
    (case z4 => k_is)
    (case z5 => k_is)
    (case z6 => k_is)
    (case z7 => k_is)
    (case z8 => k_is)
    (case z9 => k_is)
    (case z10 => k_is)
    (case z11 => k_is)
#print axioms PySem.Challenge.cw_roundsalone_k30_small_parts_holds
