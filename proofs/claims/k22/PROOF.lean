import PyProof.Rows.All
import Wide.All
import OpenK.AllK
import Wide.FinOn
import Lean
import PyProof.EqAt
import PyProof.EqKinds
import PyProof.TupleCall
import PyProof.ReprBulk
import PyProof.FString5
import KE.KSortKey
import KE.KLam
import KE.KRevIter
import PyProof.FactsAll.range_2
import KE.KSortTup
import PyProof.P3In
import PySem.Challenge.RW_roundsalone_k22_cuts
set_option Elab.async false
set_option linter.all false
set_option maxRecDepth 100000
namespace L2
open PySem PySem.Spec PyProof.Rows
abbrev Key := Sum Int Str
def keyIs : Key → Value → Bool
  | .inl k, v => Value.isInt k v
  | .inr x, v => Value.isStrOf x v
def keyH (w : World) : Key → Int
  | .inl k => hashInt k
  | .inr x => hashStr w x
theorem keyIs_shape : ∀ {k : Key} {v : Value}, keyIs k v = true → (∃ i t, k = Sum.inl i ∧ v = Value.int i t) ∨ (∃ x t, k = Sum.inr x ∧ v = Value.str x t)
  | .inl i, v, h => by
    obtain ⟨t, e⟩ := Value.isInt_shape (k := i) (v := v) h
    exact .inl ⟨i, t, rfl, e⟩
  | .inr x, v, h => by
    obtain ⟨t, e⟩ := Value.isStrOf_shape (x := x) (v := v) h
    exact .inr ⟨x, t, rfl, e⟩
theorem key_ll (a b : Int) : decide ((Sum.inl a : Key) = Sum.inl b) = (a == b) := by
  by_cases e : a = b
  · subst e; simp
  · have h : ¬ (Sum.inl a : Key) = Sum.inl b := fun q => e (Sum.inl.inj q)
    rw [decide_eq_false h]
    exact (beq_eq_false_iff_ne.mpr e).symm
theorem key_rr (a b : Str) : decide ((Sum.inr a : Key) = Sum.inr b) = decide (a = b) := by
  by_cases e : a = b
  · subst e; simp
  · have h : ¬ (Sum.inr a : Key) = Sum.inr b := fun q => e (Sum.inr.inj q)
    rw [decide_eq_false h, decide_eq_false e]
theorem key_lr (a : Int) (b : Str) : decide ((Sum.inl a : Key) = Sum.inr b) = false := decide_eq_false (fun q => nomatch q)
theorem key_rl (a : Str) (b : Int) : decide ((Sum.inr a : Key) = Sum.inl b) = false := decide_eq_false (fun q => nomatch q)
def mixKind (prog : Program) (w : World) : PySem.KeyKind prog w Key where
  is := keyIs
  hash := keyH w
  inj := fun v a b ha hb => by
    rcases keyIs_shape ha with ⟨i, t, rfl, rfl⟩ | ⟨x, t, rfl, rfl⟩
    · rcases keyIs_shape hb with ⟨j, u, rfl, e⟩ | ⟨y, u, rfl, e⟩
      · injection e with e1 _; rw [e1]
      · exact nomatch e
    · rcases keyIs_shape hb with ⟨j, u, rfl, e⟩ | ⟨y, u, rfl, e⟩
      · exact nomatch e
      · injection e with e1 _; rw [e1]
  byValue := fun k v h => by
    rcases keyIs_shape h with ⟨i, t, rfl, rfl⟩ | ⟨x, t, rfl, rfl⟩ <;> rfl
  pyHash := fun hv h => by
    rcases keyIs_shape hv with ⟨i, t, rfl, rfl⟩ | ⟨x, t, rfl, rfl⟩
    · exact wpAny_pyHash_int h
    · exact wpAny_pyHash_str h
  eqBool := fun hu hv h => by
    rcases keyIs_shape hu with ⟨i, t, rfl, rfl⟩ | ⟨x, t, rfl, rfl⟩
    · rcases keyIs_shape hv with ⟨j, u, rfl, rfl⟩ | ⟨y, u, rfl, rfl⟩
      · rw [key_ll] at h; exact wpAny_eqBool_int h
      · rw [key_lr] at h; exact SeqAt.EqAt.int_str i t y u _ _ _ _ h
    · rcases keyIs_shape hv with ⟨j, u, rfl, rfl⟩ | ⟨y, u, rfl, rfl⟩
      · rw [key_rl] at h; exact SeqAt.EqAt.str_int x t j u _ _ _ _ h
      · rw [key_rr] at h; exact wpAny_eqBool_str h
  «strs» := fun k x t v h => by
    rcases keyIs_shape h with ⟨i, u, rfl, e⟩ | ⟨y, u, rfl, e⟩
    · exact nomatch e
    · injection e with e1 _
      subst e1
      cases v <;> rfl
end L2
namespace L2
open PySem PySem.Spec PyProof.Rows
inductive V where
  | non | bl (b : Bool) | int (i : Int) | str (x : Str) | byt (b : Array UInt8) | flt (b : UInt64) | ref (a : Addr) | ty (n : String)
  deriving DecidableEq
def RelV : V → Value → Prop
  | .non, u => u = Value.none
  | .bl b, u => u = Value.bool b
  | .int i, u => ∃ t, u = Value.int i t
  | .str x, u => ∃ t, u = Value.str x t
  | .byt b, u => ∃ t, u = Value.bytes b t
  | .flt b, u => ∃ t, u = Value.float b t
  | .ref a, u => u = Value.ref a
  | .ty n, u => u = Value.type n
abbrev Vals : List V → List Value → Prop := Paired RelV
theorem Vals.length {xs : List V} {us : List Value} (r : Vals xs us) : xs.length = us.length := Paired.length r
theorem Vals.get : ∀ {xs : List V} {us : List Value} {i : Nat} {x : V}, Vals xs us → xs[i]? = some x → ∃ u, us[i]? = some u ∧ RelV x u
  | _, _, _, _, .nil, e => by simp at e
  | _, _, 0, _, .cons r _, e => by simp at e; subst e; exact ⟨_, rfl, r⟩
  | _, _, i + 1, x, .cons _ t, e => by
    obtain ⟨u, h1, h2⟩ := Vals.get (i := i) (x := x) t (by simpa using e)
    exact ⟨u, by simpa using h1, h2⟩
theorem Vals.set {x : V} {u : Value} (r : RelV x u) : ∀ {xs : List V} {us : List Value} (i : Nat), Vals xs us → Vals (xs.set i x) (us.set i u)
  | _, _, _, .nil => .nil
  | _, _, 0, .cons _ t => .cons r t
  | _, _, i + 1, .cons q t => .cons q (Vals.set r i t)
theorem Vals.append : ∀ {xs ys : List V} {us ws : List Value}, Vals xs us → Vals ys ws → Vals (xs ++ ys) (us ++ ws)
  | _, _, _, _, .nil, s => s
  | _, _, _, _, .cons r t, s => .cons r (Vals.append t s)
theorem Vals.take : ∀ {xs : List V} {us : List Value} (n : Nat), Vals xs us → Vals (xs.take n) (us.take n)
  | _, _, 0, _ => .nil
  | _, _, _ + 1, .nil => .nil
  | _, _, n + 1, .cons r t => .cons r (Vals.take n t)
theorem Vals.drop : ∀ {xs : List V} {us : List Value} (n : Nat), Vals xs us → Vals (xs.drop n) (us.drop n)
  | _, _, 0, r => r
  | _, _, _ + 1, .nil => .nil
  | _, _, n + 1, .cons _ t => Vals.drop n t
theorem Vals.none_of : ∀ {xs : List V} {us : List Value} {i : Nat}, Vals xs us → xs[i]? = none → us[i]? = none := fun {xs us i} r e => by
  have h1 := r.length
  have h2 : xs.length ≤ i := List.getElem?_eq_none_iff.mp e
  exact List.getElem?_eq_none_iff.mpr (by omega)
def RelO : Option V → Option Value → Prop
  | some v, some u => RelV v u
  | none, none => True
  | _, _ => False
def KV {κ : Type} : List (κ × V) → List (κ × Value) → Prop := Paired fun (p : κ × V) (q : κ × Value) => p.1 = q.1 ∧ RelV p.2 q.2
def kV : Key → V
  | .inl i => .int i
  | .inr x => .str x
inductive HO where
    | lst (xs : List V)
    | tup (xs : List V)
    | dK (kvs : List (Key × V)) | dT (kvs : List (List Key × V))
    | set (S : Int → Bool) (n : Nat)
    | ins (C dx : Addr) (fs : List (Str × V))
    | own (x : Addr)
    | xd (fs : List (Str × V))
    | met (f x : Addr)
    | rng (lo hi : Int)
    | frz (o : Obj) (u : HO)
    | tbl (ps : Array Value)
    | ext (φ : Heap → Prop)
abbrev Hp := Addr → Option HO
def upd (H : Hp) (a : Addr) (o : HO) : Hp := fun b => if b = a then some o else H b
theorem upd_same {H : Hp} {a : Addr} {o : HO} : upd H a o a = some o := by unfold upd; rw [if_pos rfl]
theorem upd_ne {H : Hp} {a b : Addr} {o : HO} (h : b ≠ a) : upd H a o b = H b := by unfold upd; rw [if_neg h]
theorem ne_of_none {H : Hp} {a b : Addr} {o : HO} (h : H a = some o) (h' : H b = none) : a ≠ b := by
  intro e; subst e; rw [h] at h'; cases h'
section
variable (P : Program) (w : World)
def ObjOk (H : Hp) (h : Heap) (a : Addr) : HO → Prop
  | .lst xs => xs.length ≤ sizeLine ∧ ∃ (its : List Value) (n : Nat), Vals xs its ∧ h.get? a = some { cls := .type "list", data := .seq its.toArray n }
  | .tup xs => xs.length ≤ sizeLine ∧ ∃ its : List Value, Vals xs its ∧ IsTup h a its.toArray
  | .dK kvs => kvs.length ≤ sizeLine ∧ (a == sysModules) = false ∧ ∃ vs, KV kvs vs ∧ h.DictOf (mixKind P w) a vs
  | .dT kvs => kvs.length ≤ sizeLine ∧ (a == sysModules) = false ∧ ∃ xs : List (List Key × Addr × Value),
      Paired (fun (p : List Key × V) (q : List Key × Addr × Value) => p.1 = q.1 ∧ H q.2.1 = some (.tup (p.1.map kV)) ∧ RelV p.2 q.2.2) kvs xs ∧
      ∃ o es ep, h.get? a = some o ∧ o.ExactDict ∧ o.data = .dict es ep ∧ es.toList = xs.map (entryOfKey (tupleKind (mixKind P w))) ∧ (xs.map (·.1)).Nodup
  | .set S n => h.SetOf (intKind P w) a S n
  | .ins C dx fs => H dx = some (.own a) ∧ fs.length ≤ 1000 ∧ dx ≠ a ∧ h.get? a = some (PySem.W.instObj C dx) ∧
      ∃ mA, h.Ns1 dx mA ∧ (∀ f, RelO (fs.lookup f) (mA f)) ∧ PySem.Within mA (fs.map (·.1))
  | .own _ => ∃ o, h.get? a = some o
  | .xd fs => ∃ mA, h.Ns1 a mA ∧ ∀ f, RelO (fs.lookup f) (mA f)
  | .rng lo hi => ∃ t u v, h.get? a = some { cls := .type "range", data := .fields #[.int lo t, .int hi u, .int 1 v] }
  | .frz o u => h.get? a = some o ∧ ObjOk H h a u
  | .tbl ps => h.get? a = some { cls := .none, data := .fields ps }
  | .met f x => h.get? a = some (PySem.W.methodObj (.ref f) (.ref x))
  | .ext φ => φ h ∧ (∃ o, h.get? a = some o) ∧ ∀ h1 h2 : Heap, φ h1 → (∀ o, h1.get? a = some o → h2.get? a = some o) → φ h2
def HOk (H : Hp) (h : Heap) : Prop := ∀ a o, H a = some o → ObjOk P w H h a o
end
section
variable {P : Program} {w : World} {H H' : Hp} {h h' : Heap} {a : Addr} {o : HO}
theorem ObjOk.lt (x : ObjOk P w H h a o) : a < h.objs.size := by
  cases o with
  | lst xs => obtain ⟨_, _, _, _, e⟩ := x; exact Heap.lt_size e
  | tup xs => obtain ⟨_, _, _, p⟩ := x; exact p.lt
  | dK kvs => obtain ⟨_, _, _, _, o, _, _, e, _⟩ := x; exact Heap.lt_size e
  | dT kvs => obtain ⟨_, _, _, _, o, _, _, e, _⟩ := x; exact Heap.lt_size e
  | set S n => obtain ⟨o, _, _, _, e, _⟩ := x; exact Heap.lt_size e
  | ins C dx fs => obtain ⟨_, _, _, e, _⟩ := x; exact Heap.lt_size e
  | own y => obtain ⟨_, e⟩ := x; exact Heap.lt_size e
  | xd fs => obtain ⟨_, ⟨_, _, _, e, _⟩, _⟩ := x; exact Heap.lt_size e
  | rng lo hi => obtain ⟨_, _, _, e⟩ := x; exact Heap.lt_size e
  | frz ob u => obtain ⟨e, _⟩ := x; exact Heap.lt_size e
  | tbl ps => exact Heap.lt_size (show h.get? a = some _ from x)
  | met f y => exact Heap.lt_size (show h.get? a = some _ from x)
  | ext φ => obtain ⟨_, ⟨_, e⟩, _⟩ := x; exact Heap.lt_size e
theorem Paired.mapP {α β : Type} {F G : α → β → Prop} : ∀ {l₁ : List α} {l₂ : List β}, Paired F l₁ l₂ → (∀ a b, F a b → G a b) → Paired G l₁ l₂
  | _, _, .nil, _ => .nil
  | _, _, .cons r t, f => .cons (f _ _ r) (Paired.mapP t f)
theorem ObjOk.stay (x : ObjOk P w H h a o) (k : ∀ b u, (b = a ∨ H b = some (.own a)) → h.get? b = some u → h'.get? b = some u)
    (ho : ∀ b, H b = some (.own a) → H' b = some (.own a)) (ht : ∀ b xs, H b = some (.tup xs) → H' b = some (.tup xs)) : ObjOk P w H' h' a o := by
  induction o with
  | lst xs => obtain ⟨z, its, n, r, e⟩ := x; exact ⟨z, its, n, r, k _ _ (.inl rfl) e⟩
  | tup xs => obtain ⟨z, its, r, ob, e, c⟩ := x; exact ⟨z, its, r, ob, k _ _ (.inl rfl) e, c⟩
  | dK kvs => obtain ⟨z, y, vs, r, ob, es, ep, e, c⟩ := x; exact ⟨z, y, vs, r, ob, es, ep, k _ _ (.inl rfl) e, c⟩
  | dT kvs =>
    obtain ⟨z, y, xs, r, ob, es, ep, e, c⟩ := x
    exact ⟨z, y, xs, Paired.mapP r fun p q z => ⟨z.1, ht _ _ z.2.1, z.2.2⟩, ob, es, ep, k _ _ (.inl rfl) e, c⟩
  | set S n => obtain ⟨ob, es, ep, t, e, c⟩ := x; exact ⟨ob, es, ep, t, k _ _ (.inl rfl) e, c⟩
  | ins C dx fs =>
    obtain ⟨d, z, ne, e, mA, ⟨od, es, ep, e2, c⟩, r⟩ := x
    exact ⟨ho _ d, z, ne, k _ _ (.inl rfl) e, mA, ⟨od, es, ep, k _ _ (.inr d) e2, c⟩, r⟩
  | own y => obtain ⟨ob, e⟩ := x; exact ⟨ob, k _ _ (.inl rfl) e⟩
  | xd fs => obtain ⟨mA, ⟨od, es, ep, e, c⟩, r⟩ := x; exact ⟨mA, ⟨od, es, ep, k _ _ (.inl rfl) e, c⟩, r⟩
  | rng lo hi => obtain ⟨t, u, v, e⟩ := x; exact ⟨t, u, v, k _ _ (.inl rfl) e⟩
  | frz ob u ih => obtain ⟨e, q⟩ := x; exact ⟨k _ _ (.inl rfl) e, ih q⟩
  | tbl ps =>
    have e : h.get? a = some { cls := .none, data := .fields ps } := x
    show h'.get? a = some { cls := .none, data := .fields ps }
    exact k a _ (.inl rfl) e
  | met f y =>
    have e : h.get? a = some (PySem.W.methodObj (.ref f) (.ref y)) := x
    show h'.get? a = some (PySem.W.methodObj (.ref f) (.ref y))
    exact k a _ (.inl rfl) e
  | ext φ => obtain ⟨p, ⟨o, e⟩, st⟩ := x; exact ⟨st _ _ p fun o q => k _ _ (.inl rfl) q, ⟨o, k _ _ (.inl rfl) e⟩, st⟩
theorem HOk.lt (x : HOk P w H h) (e : H a = some o) : a < h.objs.size := (x a o e).lt
theorem HOk.fresh (x : HOk P w H h) (e : h.objs.size ≤ a) : H a = none := by
  cases q : H a with
  | none => rfl
  | some u => exact absurd (Nat.lt_of_lt_of_le (x.lt q) e) (Nat.lt_irrefl _)
theorem HOk.kept (x : HOk P w H h) (k : ∀ b u, h.get? b = some u → h'.get? b = some u) : HOk P w H h' := fun a o e =>
  (x a o e).stay (fun b u _ q => k b u q) (fun _ q => q) fun _ _ q => q
theorem HOk.laid (x : HOk P w H h) (k : ∀ b u, h.get? b = some u → h'.get? b = some u) (hp : h.objs.size ≤ a) (new : ObjOk P w (upd H a o) h' a o) : HOk P w (upd H a o) h' := fun b u e => by
  have hn := x.fresh hp
  by_cases hb : b = a
  · subst hb; rw [upd_same] at e; cases e; exact new
  · rw [upd_ne hb] at e
    exact (x b u e).stay (fun c v _ q => k c v q) (fun c q => by rw [upd_ne (ne_of_none q hn)]; exact q) fun c xs q => by rw [upd_ne (ne_of_none q hn)]; exact q
end
def Rd (H : Hp) (a : Addr) (u : HO) : Prop := H a = some u ∨ ∃ o, H a = some (.frz o u)
theorem Rd.of {H : Hp} {a : Addr} {u : HO} (h : H a = some u) : Rd H a u := .inl h
theorem Rd.ok {P : Program} {w : World} {H : Hp} {h : Heap} {a : Addr} {u : HO} (r : Rd H a u) (x : HOk P w H h) : ObjOk P w H h a u := by
  rcases r with r | ⟨o, r⟩
  · exact x a u r
  · obtain ⟨_, q⟩ := x a _ r
    exact q
def Mut : Option HO → Prop
  | some (.lst _) => True
  | some (.dK _) => True
  | some (.dT _) => True
  | some (.set _ _) => True
  | some (.ins _ _ _) => True
  | some (.ext _) => True
  | _ => False
section
variable {P : Program} {w : World} {H : Hp} {h h' : Heap} {x e : Addr} {o' : HO}
theorem HOk.write (ok : HOk P w H h) (mu : Mut (H x)) (he : e = x ∨ H e = some (.own x)) (k : ∀ b u, b ≠ e → h.get? b = some u → h'.get? b = some u) (heo : ∃ u, h'.get? e = some u)
    (new : ObjOk P w (upd H x o') h' x o') : HOk P w (upd H x o') h' := fun b u q => by
  have nown : ∀ c y, H c = some (.own y) → c ≠ x := fun c y r z => by subst z; rw [r] at mu; exact mu
  have ntup : ∀ c xs, H c = some (.tup xs) → c ≠ x := fun c xs r z => by subst z; rw [r] at mu; exact mu
  by_cases hb : b = x
  · subst hb; rw [upd_same] at q; cases q; exact new
  · rw [upd_ne hb] at q
    by_cases hbe : b = e
    · have q' : H b = some (.own x) := by
        rcases he with z | z
        · exact absurd (hbe.trans z) hb
        · rw [hbe]; exact z
      rw [q] at q'; cases q'
      obtain ⟨v, hv⟩ := heo
      exact ⟨v, by rw [hbe]; exact hv⟩
    · refine (ok b u q).stay (fun c v hc r => k c v ?_ r) (fun c r => by rw [upd_ne (nown c b r)]; exact r) fun c xs r => by rw [upd_ne (ntup c xs r)]; exact r
      rcases hc with rfl | hc
      · exact hbe
      · rintro rfl
        rcases he with z | z
        · exact nown c b hc z
        · rw [hc] at z; cases z; exact hb rfl
end
structure Un (fs ex : List Addr) (H H' : Hp) (h h' : Heap) : Prop where
  keep : ∀ b o, h.get? b = some o → H b = none → b ∉ fs → b ∉ ex → h'.get? b = some o
  slot : ∀ b o, h.get? b = some o → H b = none → b ∈ fs → b ∉ ex → ∃ sl, h'.get? b = some { o with slots := sl }
  free : ∀ b o, h.get? b = some o → H b = none → b ∉ ex → H' b = none
  there : ∀ b o, h.get? b = some o → b ∉ ex → ∃ o', h'.get? b = some o'
  tups : ∀ b xs, H b = some (.tup xs) → H' b = some (.tup xs)
  frzs : ∀ b o u, H b = some (.frz o u) → H' b = some (.frz o u)
  tbls : ∀ b ps, H b = some (.tbl ps) → ∃ more, H' b = some (.tbl (ps ++ more))
section
variable {fs fs' ex ex' : List Addr} {H H1 H2 : Hp} {h h1 h2 h' : Heap} {a x e : Addr} {o : HO}
theorem Un.any (u : Un fs ex H H1 h h1) {b : Addr} {ob : Obj} (q : h.get? b = some ob) (n : H b = none) (hx : b ∉ ex) : ∃ sl, h1.get? b = some { ob with slots := sl } := by
  by_cases hb : b ∈ fs
  · exact u.slot b ob q n hb hx
  · exact ⟨ob.slots, u.keep b ob q n hb hx⟩
theorem Un.trans (a : Un fs ex H H1 h h1) (b : Un fs ex H1 H2 h1 h2) : Un fs ex H H2 h h2 where
  keep := fun c ob q n hc hx => b.keep c ob (a.keep c ob q n hc hx) (a.free c ob q n hx) hc hx
  slot := fun c ob q n hc hx => by
    obtain ⟨sl, e1⟩ := a.slot c ob q n hc hx
    obtain ⟨sl', e2⟩ := b.slot c _ e1 (a.free c ob q n hx) hc hx
    exact ⟨sl', e2⟩
  free := fun c ob q n hx => by
    obtain ⟨o', e1⟩ := a.there c ob q hx
    exact b.free c o' e1 (a.free c ob q n hx) hx
  there := fun c ob q hx => by
    obtain ⟨o', e1⟩ := a.there c ob q hx
    exact b.there c o' e1 hx
  tups := fun c xs q => b.tups c xs (a.tups c xs q)
  frzs := fun c ob xs q => b.frzs c ob xs (a.frzs c ob xs q)
  tbls := fun c ps q => by
    obtain ⟨m1, e1⟩ := a.tbls c ps q
    obtain ⟨m2, e2⟩ := b.tbls c _ e1
    exact ⟨m1 ++ m2, by rw [e2, Array.append_assoc]⟩
theorem Un.kept (k : ∀ b u, h.get? b = some u → h'.get? b = some u) : Un fs ex H H h h' :=
  ⟨fun b ob q _ _ _ => k b ob q, fun b ob q _ _ _ => ⟨ob.slots, k b ob q⟩, fun _ _ _ n _ => n, fun b ob q _ => ⟨ob, k b ob q⟩, fun _ _ q => q, fun _ _ _ q => q, fun _ ps q => ⟨#[], by rw [q]; simp⟩⟩
theorem Un.refl : Un fs ex H H h h := Un.kept fun _ _ q => q
theorem Un.laid (k : ∀ b u, h.get? b = some u → h'.get? b = some u) (hp : h.objs.size ≤ a) (hn : H a = none) : Un fs ex H (upd H a o) h h' where
  keep := fun b u q _ _ _ => k b u q
  slot := fun b u q _ _ _ => ⟨u.slots, k b u q⟩
  free := fun b u q n _ => by rw [upd_ne (Nat.ne_of_lt (Nat.lt_of_lt_of_le (Heap.lt_size q) hp))]; exact n
  there := fun b u q _ => ⟨u, k b u q⟩
  tups := fun b xs q => by rw [upd_ne (ne_of_none q hn)]; exact q
  frzs := fun b u xs q => by rw [upd_ne (ne_of_none q hn)]; exact q
  tbls := fun b ps q => ⟨#[], by rw [upd_ne (ne_of_none q hn), q]; simp⟩
theorem Un.write (mu : Mut (H x)) (he : e = x ∨ H e = some (.own x)) (k : ∀ b u, b ≠ e → h.get? b = some u → h'.get? b = some u) (heo : ∃ u, h'.get? e = some u) : Un fs ex H (upd H x o) h h' := by
  have hx : ∀ b, H b = none → b ≠ x := fun b n z => by subst z; rw [n] at mu; exact mu
  have hb : ∀ b, H b = none → b ≠ e := fun b n z => by
    subst z
    rcases he with r | r
    · exact hx b n r
    · rw [n] at r; cases r
  have hm : ∀ b u, H b = some u → ¬ Mut (some u) → b ≠ x := fun b u q nm z => by subst z; rw [q] at mu; exact nm mu
  refine ⟨fun b u q n _ _ => k b u (hb b n) q, fun b u q n _ _ => ⟨u.slots, k b u (hb b n) q⟩, fun b u q n _ => by rw [upd_ne (hx b n)]; exact n, fun b u q _ => ?_,
    fun b xs q => by rw [upd_ne (hm b _ q fun z => z)]; exact q, fun b u xs q => by rw [upd_ne (hm b _ q fun z => z)]; exact q, fun b ps q => ⟨#[], by rw [upd_ne (hm b _ q fun z => z), q]; simp⟩⟩
  by_cases hbe : b = e
  · subst hbe; exact heo
  · exact ⟨u, k b u hbe q⟩
theorem Un.mono (u : Un fs ex H H1 h h1) (hs : ∀ b ∈ fs, b ∈ fs') (hx : ∀ b ∈ ex, b ∈ ex') : Un fs' ex' H H1 h h1 :=
  ⟨fun b ob q n hb he => u.keep b ob q n (fun z => hb (hs b z)) fun z => he (hx b z), fun _ _ q n _ he => u.any q n fun z => he (hx _ z), fun b ob q n he => u.free b ob q n fun z => he (hx b z), fun b ob q he => u.there b ob q fun z => he (hx b z), u.tups, u.frzs, u.tbls⟩
end
def trk (h : Heap) (H : Hp) : List Addr := (List.range h.objs.size).filter fun a => (H a).isSome
def hidT (h : Heap) (H : Hp) : Heap := PySem.W.hideAll h (trk h H)
theorem hidT_size (h : Heap) (H : Hp) : (hidT h H).objs.size = h.objs.size := PySem.W.hideAll_size _ _
theorem hidT_get {h : Heap} {H : Hp} {b : Addr} {o : Obj} (e : h.get? b = some o) (n : H b = none) : (hidT h H).get? b = some o :=
  PySem.W.hideAll_get _ e fun hm => by
    have q : (H b).isSome = true := (List.mem_filter.mp hm).2
    rw [n] at q; simp at q
theorem of_hidT {h : Heap} {H : Hp} {b : Addr} {o : Obj} (e : (hidT h H).get? b = some o) : h.get? b = some o ∧ H b = none := by
  have e' : h.get? b = some o := PySem.W.of_hideAll (trk h H) e
  refine ⟨e', ?_⟩
  cases q : H b with
  | none => rfl
  | some x =>
    have hm : b ∈ trk h H := List.mem_filter.mpr ⟨List.mem_range.mpr (Heap.lt_size e'), by simp [q]⟩
    have z : (hidT h H).get? b = none := PySem.W.hideAll_none (trk h H) hm
    rw [z] at e; cases e
def allNews (g h : Heap) (L : Addr) : List (Addr × Obj) := (List.range h.objs.size).filterMap fun a => if a = L ∨ (g.get? a).isSome = true then none else (h.get? a).map fun o => (a, o)
def rest (g h : Heap) (L d : Addr) : List (Addr × Obj) := (allNews g h L).filter fun p => decide (p.1 ≠ d)
end L2
namespace L2
open PySem PySem.Spec PyProof.Rows
structure Mod (K : PySem.W.Frag) (mg : Str → Option Value) (base : Heap) : Prop where
  kin : K.In base
  glob : base.Ns mainGlobals mg
  blt : ∃ mb, base.Ns builtinsNs mb ∧ ∀ x : Str, x ≠ "__name__" → mb x = bootBuiltins x
  nolimit : base.NoLimit
structure Cx where
  prog : Program
  w : World
  K : PySem.W.Frag
  mg : Str → Option Value
  base : Heap
  A : Around
  N : List Str
  s₀ : Shared
  H₀ : Hp
  env : Env
  outer : List Env
  stack : List Env
  ex : List Addr
  fn : Str → Bool
  calm : Bool
  pn : List (Addr × Obj)
  xe : Value → Shared → Prop
def frs (l : List Env) : List Addr := l.filterMap (·.frame)
abbrev Cx.fs (X : Cx) : List Addr := frs X.outer
def Vis (sc : Scope) (x : Str) : Prop := sc.names.lookup x = some .local ∨ sc.names.lookup x = some .cell ∨ sc.names.lookup x = some .free
def Loc (sc : Scope) (x : Str) : Prop := sc.names.lookup x = some .local ∨ sc.names.lookup x = some .cell
def Look (env : Env) (h : Heap) (m : Str → Option Value) (x : Str) (u : Value) : Prop :=
  (env.kindOf x = some .local ∧ m x = some u) ∨ ((env.kindOf x = some .cell ∨ env.kindOf x = some .free) ∧ ∃ c, env.cells.lookup x = some c ∧ h.IsCell c (some u))
structure Cx.Ok (X : Cx) : Prop where
  mod : Mod X.K X.mg X.base
  kind : X.env.scope.kind = .function
  glob : X.env.globals = mainGlobals
  blt : X.env.builtins = builtinsNs
  above : X.s₀.heap.objs.size ≤ X.env.locals
  inj : ∀ x y c, X.env.cells.lookup x = some c → X.env.cells.lookup y = some c → x = y
  has : ∀ x, (X.env.kindOf x = some .cell ∨ X.env.kindOf x = some .free) → ∃ c, X.env.cells.lookup x = some c
  cab : ∀ x c, X.fn x = true → X.env.cells.lookup x = some c → X.s₀.heap.objs.size ≤ c
  hd : X.calm = true → X.A.handled = none
  frames : X.A.frames = some X.stack
  stk : X.stack = X.outer ∨ (X.stack = X.env :: X.outer ∧ X.env.frame = some X.env.locals)
  exf : ∀ b ∈ X.ex, b ≠ X.env.locals ∧ ∀ x c, X.env.cells.lookup x = some c → c ≠ b
  bs : ∀ b o, X.base.get? b = some o → X.s₀.heap.get? b = some o ∧ X.H₀ b = none
  bsz : X.base.objs.size ≤ X.s₀.heap.objs.size
  noex : ∀ b o, X.base.get? b = some o → b ∉ X.ex
  exfs : ∀ b ∈ X.ex, b ∉ X.fs
  funs : X.s₀.heap.FunFrames X.base X.outer
  frf : ∀ b ∈ X.fs, X.H₀ b = none
structure Inv (X : Cx) (pins : List (Addr × Obj)) (σ : List (Option V)) (H : Hp) (s : Shared) : Prop where
  ok : X.Ok
  os : s.os = X.s₀.os
  bare : AllBare s.gens
  base : Un X.fs X.ex X.H₀ H X.s₀.heap s.heap
  loc : ∃ m, s.heap.Ns X.env.locals m ∧ ∀ (i : Nat) (x : Str) (v : V), X.N[i]? = some x → σ[i]? = some (some v) → Vis X.env.scope x → ∃ u, RelV v u ∧ Look X.env s.heap m x u
  cell : ∀ x c, X.env.cells.lookup x = some c → ∃ v, s.heap.IsCell c v
  free : H X.env.locals = none
  freeC : ∀ x c, X.env.cells.lookup x = some c → H c = none
  pin : ∀ p ∈ X.pn ++ pins, s.heap.get? p.1 = some p.2 ∧ H p.1 = none ∧ p.1 ≠ X.env.locals ∧ p.1 ∉ X.fs ∧ ∀ v, p.2.data ≠ .cell v
  hok : HOk X.prog X.w H s.heap
  len : σ.length = X.N.length
section
variable {X : Cx} {pins : List (Addr × Obj)} {σ : List (Option V)} {H H' : Hp} {s : Shared} {h' : Heap}
theorem Cx.Ok.nofr (ok : X.Ok) {b : Addr} {o : Obj} (e : X.base.get? b = some o) : b ∉ X.fs := fun hb => by
  have := (ok.funs.mem hb).1
  rw [e] at this; cases this
theorem Inv.bs (I : Inv X pins σ H s) : ∀ b o, X.base.get? b = some o → s.heap.get? b = some o ∧ H b = none := fun b o e =>
  ⟨I.base.keep b o (I.ok.bs b o e).1 (I.ok.bs b o e).2 (I.ok.nofr e) (I.ok.noex b o e), I.base.free b o (I.ok.bs b o e).1 (I.ok.bs b o e).2 (I.ok.noex b o e)⟩
theorem Inv.bk (I : Inv X pins σ H s) : ∀ b o, X.base.get? b = some o → s.heap.get? b = some o := fun b o e => (I.bs b o e).1
theorem Inv.mod (I : Inv X pins σ H s) : Mod X.K X.mg X.base := I.ok.mod
theorem Inv.kIn (I : Inv X pins σ H s) : X.K.In s.heap := I.ok.mod.kin.keeps I.bk
theorem Inv.nolimit (I : Inv X pins σ H s) : s.heap.NoLimit := I.ok.mod.nolimit.keeps I.bk
theorem Inv.fr (I : Inv X pins σ H s) : ∃ m, Fr X.base X.env.locals s.heap m :=
  let ⟨m, hn, _⟩ := I.loc
  ⟨m, hn, I.bk, Nat.le_trans I.ok.bsz I.ok.above⟩
theorem Inv.lt (I : Inv X pins σ H s) : X.env.locals < s.heap.objs.size := let ⟨_, hn, _⟩ := I.loc; hn.lt
theorem Inv.sz (I : Inv X pins σ H s) : X.s₀.heap.objs.size ≤ s.heap.objs.size := Nat.le_trans I.ok.above (Nat.le_of_lt I.lt)
theorem Inv.nofs (I : Inv X pins σ H s) {a : Addr} (h : s.heap.objs.size ≤ a) : a ∉ X.fs := fun hb => by
  obtain ⟨_, o, ho, _⟩ := I.ok.funs.mem hb
  exact absurd (Nat.lt_of_lt_of_le (Heap.lt_size ho) (Nat.le_trans I.sz h)) (Nat.lt_irrefl _)
theorem Inv.cne (I : Inv X pins σ H s) : ∀ x c, X.env.cells.lookup x = some c → c ≠ X.env.locals := fun x c e z => by
  obtain ⟨v, o, ho, hd⟩ := I.cell x c e
  obtain ⟨m, ⟨o', es, ep, ho', hd', _⟩, _⟩ := I.loc
  rw [z, ho'] at ho; cases ho; rw [hd'] at hd; cases hd
theorem Inv.funs (I : Inv X pins σ H s) : s.heap.FunFrames X.base X.outer := by
  have all : ∀ (l : List Env), (∀ b ∈ frs l, b ∈ X.fs) → X.s₀.heap.FunFrames X.base l → s.heap.FunFrames X.base l := by
    intro l
    induction l with
    | nil => intro _ _; trivial
    | cons env r ih =>
      intro hs hl
      obtain ⟨hk, ⟨L, o, hf, hn, ho, hd⟩, hr⟩ := hl
      have hL : L ∈ X.fs := hs L (by unfold frs; rw [List.filterMap_cons, hf]; exact List.mem_cons_self)
      obtain ⟨sl, e⟩ := I.base.slot L o ho (I.ok.frf L hL) hL fun z => I.ok.exfs L z hL
      exact ⟨hk, ⟨L, _, hf, hn, e, hd⟩, ih (fun b hb => hs b (by unfold frs; rw [List.filterMap_cons, hf]; exact List.mem_cons_of_mem _ hb)) hr⟩
  exact all X.outer (fun _ hb => hb) I.ok.funs
theorem Inv.stack (I : Inv X pins σ H s) : s.heap.FunFrames X.base X.stack := by
  rcases I.ok.stk with e | ⟨e, hf⟩
  · rw [e]; exact I.funs
  · rw [e]
    obtain ⟨m, hn, _⟩ := I.loc
    refine .cons (by rw [I.ok.kind]; decide) hf hn ?_ I.funs
    exact Heap.get?_none_of_le (Nat.le_trans I.ok.bsz I.ok.above)
theorem Inv.stkSub (I : Inv X pins σ H s) : ∀ b ∈ frs X.stack, b ∈ X.env.locals :: X.fs := fun b hb => by
  rcases I.ok.stk with e | ⟨e, hf⟩
  · rw [e] at hb; exact List.mem_cons_of_mem _ hb
  · rw [e] at hb
    unfold frs at hb
    rw [List.filterMap_cons, hf] at hb
    exact hb
theorem Inv.stkFree (I : Inv X pins σ H s) : ∀ b ∈ frs X.stack, H b = none := fun b hb => by
  rcases List.mem_cons.mp (I.stkSub b hb) with e | hb
  · rw [e]; exact I.free
  · obtain ⟨_, o, ho, _⟩ := I.ok.funs.mem hb
    exact I.base.free b o ho (I.ok.frf b hb) fun z => I.ok.exfs b z hb
theorem Inv.step {g' : Array GenState} {t' : Nat} {d' : Drawn} {ch : List Addr} (I : Inv X pins σ H s)
    (hch : ∀ b ∈ ch, (b ∈ X.ex ∨ X.s₀.heap.objs.size ≤ b) ∧ b ≠ X.env.locals ∧ (∀ x c, X.env.cells.lookup x = some c → c ≠ b) ∧ ∀ p ∈ X.pn ++ pins, p.1 ≠ b)
    (keep : ∀ b o, b ≠ X.env.locals → b ∉ X.fs → b ∉ ch → s.heap.get? b = some o → H b = none → h'.get? b = some o)
    (slot : ∀ b o, b ≠ X.env.locals → b ∈ X.fs → b ∉ ch → s.heap.get? b = some o → H b = none → ∃ sl, h'.get? b = some { o with slots := sl }) (free : ∀ b o, b ∉ ch → s.heap.get? b = some o → H b = none → H' b = none)
    (there : ∀ b o, b ∉ ch → s.heap.get? b = some o → ∃ o', h'.get? b = some o')
    (tups : ∀ b xs, H b = some (.tup xs) → H' b = some (.tup xs)) (frzs : ∀ b o u, H b = some (.frz o u) → H' b = some (.frz o u)) (tbls : ∀ b ps, H b = some (.tbl ps) → ∃ more, H' b = some (.tbl (ps ++ more)))
    (ns : ∀ m, s.heap.Ns X.env.locals m → h'.Ns X.env.locals m) (hok : HOk X.prog X.w H' h') (hg : AllBare g') :
    Inv X pins σ H' { s with heap := h', gens := g', drawn := d', toks := t' } := by
  have neL : ∀ b o, X.s₀.heap.get? b = some o → b ≠ X.env.locals := fun b o e => Nat.ne_of_lt (Nat.lt_of_lt_of_le (Heap.lt_size e) I.ok.above)
  have neC : ∀ b o, X.s₀.heap.get? b = some o → b ∉ X.ex → b ∉ ch := fun b o e hx hb => by
    rcases (hch b hb).1 with z | z
    · exact hx z
    · exact absurd (Nat.lt_of_lt_of_le (Heap.lt_size e) z) (Nat.lt_irrefl _)
  have cellK : ∀ x c, X.env.cells.lookup x = some c → ∀ v, s.heap.IsCell c v → h'.IsCell c v := fun x c e v ⟨o, ho, hd⟩ => by
    have nch : c ∉ ch := fun z => (hch c z).2.2.1 x c e rfl
    by_cases hc : c ∈ X.fs
    · obtain ⟨sl, q⟩ := slot c o (I.cne x c e) hc nch ho (I.freeC x c e)
      exact ⟨_, q, hd⟩
    · exact ⟨o, keep c o (I.cne x c e) hc nch ho (I.freeC x c e), hd⟩
  refine ⟨I.ok, I.os, hg, ⟨fun b o e n hb hx => ?_, fun b o e n hb hx => ?_, fun b o e n hx => ?_, fun b o e hx => ?_, fun b xs e => tups b xs (I.base.tups b xs e), fun b o xs e => frzs b o xs (I.base.frzs b o xs e), fun b ps e => ?_⟩, ?_, fun x c e => ?_, ?_, fun x c e => ?_, fun p hp => ?_, hok, I.len⟩
  · exact keep b o (neL b o e) hb (neC b o e hx) (I.base.keep b o e n hb hx) (I.base.free b o e n hx)
  · obtain ⟨sl, e1⟩ := I.base.slot b o e n hb hx
    obtain ⟨sl', e2⟩ := slot b _ (neL b o e) hb (neC b o e hx) e1 (I.base.free b o e n hx)
    exact ⟨sl', e2⟩
  · obtain ⟨o', e1⟩ := I.base.there b o e hx
    exact free b o' (neC b o e hx) e1 (I.base.free b o e n hx)
  · obtain ⟨o', e1⟩ := I.base.there b o e hx
    exact there b o' (neC b o e hx) e1
  · obtain ⟨m1, e1⟩ := I.base.tbls b ps e
    obtain ⟨m2, e2⟩ := tbls b _ e1
    exact ⟨m1 ++ m2, by rw [e2, Array.append_assoc]⟩
  · obtain ⟨m, hn, hl⟩ := I.loc
    refine ⟨m, ns m hn, fun i x v e1 e2 e3 => ?_⟩
    obtain ⟨u, r, l⟩ := hl i x v e1 e2 e3
    refine ⟨u, r, ?_⟩
    rcases l with l | ⟨k, c, e, z⟩
    · exact .inl l
    · exact .inr ⟨k, c, e, cellK x c e _ z⟩
  · obtain ⟨v, z⟩ := I.cell x c e
    exact ⟨v, cellK x c e v z⟩
  · obtain ⟨m, ⟨o, _, _, ho, _⟩, _⟩ := I.loc
    exact free _ o (fun z => (hch _ z).2.1 rfl) ho I.free
  · obtain ⟨v, o, ho, hd⟩ := I.cell x c e
    exact free c o (fun z => (hch c z).2.2.1 x c e rfl) ho (I.freeC x c e)
  · obtain ⟨e, n, ne, nf, d⟩ := I.pin p hp
    have nch : p.1 ∉ ch := fun z => (hch p.1 z).2.2.2 p hp rfl
    exact ⟨keep p.1 p.2 ne nf nch e n, free p.1 p.2 nch e n, ne, nf, d⟩
theorem Inv.un {t' : Nat} (I : Inv X pins σ H s) (u : Un X.fs [] H H' s.heap h') (hok : HOk X.prog X.w H' h') : Inv X pins σ H' { s with heap := h', toks := t' } := by
  obtain ⟨m, ⟨o, es, ep, ho, r⟩, _⟩ := id I.loc
  obtain ⟨sl, hL⟩ := u.any ho I.free (by simp)
  exact I.step (g' := s.gens) (d' := s.drawn) (ch := []) (fun _ z => nomatch z) (fun b o _ hb _ e n => u.keep b o e n hb (by simp)) (fun b o _ hb _ e n => u.slot b o e n hb (by simp)) (fun b o _ e n => u.free b o e n (by simp)) (fun b o _ e => u.there b o e (by simp)) u.tups u.frzs u.tbls (fun m' hm => by
    obtain ⟨o', es', ep', ho', r'⟩ := hm
    rw [ho] at ho'; cases ho'
    exact ⟨_, es', ep', hL, r'⟩) hok I.bare
theorem Inv.call {g' : Array GenState} {t' : Nat} {d' : Drawn} {ch : List Addr} (I : Inv X pins σ H s) (u : Un (frs X.stack) ch H H' s.heap h') (hok : HOk X.prog X.w H' h') (hg : AllBare g')
    (hch : ∀ b ∈ ch, (b ∈ X.ex ∨ X.s₀.heap.objs.size ≤ b) ∧ b ≠ X.env.locals ∧ (∀ x c, X.env.cells.lookup x = some c → c ≠ b) ∧ ∀ p ∈ X.pn ++ pins, p.1 ≠ b) :
    Inv X pins σ H' { s with heap := h', gens := g', drawn := d', toks := t' } := by
  obtain ⟨m, ⟨o, es, ep, ho, r⟩, _⟩ := id I.loc
  obtain ⟨sl, hL⟩ := u.any ho I.free fun z => (hch _ z).2.1 rfl
  exact I.step (ch := ch) hch (fun b o hL hb hc e n => u.keep b o e n (fun z => (List.mem_cons.mp (I.stkSub b z)).elim hL hb) hc) (fun b o _ _ hc e n => u.any e n hc) (fun b o hc e n => u.free b o e n hc) (fun b o hc e => u.there b o e hc) u.tups u.frzs u.tbls (fun m' hm => by
    obtain ⟨o', es', ep', ho', r'⟩ := hm
    rw [ho] at ho'; cases ho'
    exact ⟨_, es', ep', hL, r'⟩) hok hg
theorem Inv.turned {t' : Nat} {it : Addr} (I : Inv X pins σ H s) (k : ∀ b o, b ≠ it → s.heap.get? b = some o → h'.get? b = some o) (hn : H it = none) (hL : it ≠ X.env.locals)
    (h1 : it ∈ X.ex ∨ X.s₀.heap.objs.size ≤ it) (h2 : ∀ x c, X.env.cells.lookup x = some c → c ≠ it) (h3 : ∀ p ∈ X.pn ++ pins, p.1 ≠ it) : Inv X pins σ H { s with heap := h', toks := t' } := by
  have nit : ∀ b u, H b = some u → b ≠ it := fun b u e z => by rw [z, hn] at e; cases e
  refine I.step (g' := s.gens) (d' := s.drawn) (ch := [it]) (fun b hb => ?_) (fun b o _ _ hc e _ => k b o (fun z => hc (by simp [z])) e) (fun b o _ _ hc e _ => ⟨o.slots, k b o (fun z => hc (by simp [z])) e⟩) (fun _ _ _ _ n => n)
    (fun b o hc e => ⟨o, k b o (fun z => hc (by simp [z])) e⟩) (fun _ _ e => e) (fun _ _ _ e => e) (fun b ps e => ⟨#[], by rw [e]; simp⟩) (fun m hm => ?_) (fun b u e => ?_) I.bare
  · have e : b = it := by simpa using hb
    subst e
    exact ⟨h1, hL, h2, h3⟩
  · obtain ⟨o, es, ep, ho, r⟩ := hm
    exact ⟨o, es, ep, k _ o (Ne.symm hL) ho, r⟩
  · refine (I.hok b u e).stay (fun c v hc q => k c v ?_ q) (fun _ q => q) fun _ _ q => q
    rcases hc with z | z
    · rw [z]; exact nit b u e
    · exact nit c _ z
theorem Inv.tok (I : Inv X pins σ H s) (t : Nat) : Inv X pins σ H { s with toks := t } := I.un (h' := s.heap) (t' := t) Un.refl I.hok
theorem Inv.kept {t' : Nat} (I : Inv X pins σ H s) (k : ∀ b u, s.heap.get? b = some u → h'.get? b = some u) : Inv X pins σ H { s with heap := h', toks := t' } := I.un (Un.kept k) (I.hok.kept k)
theorem Inv.laid {a : Addr} {o : HO} {t' : Nat} (I : Inv X pins σ H s) (k : ∀ b u, s.heap.get? b = some u → h'.get? b = some u) (hp : s.heap.objs.size ≤ a) (new : ObjOk X.prog X.w (upd H a o) h' a o) :
    Inv X pins σ (upd H a o) { s with heap := h', toks := t' } := I.un (Un.laid k hp (I.hok.fresh hp)) (I.hok.laid k hp new)
theorem Inv.write {x e : Addr} {o : HO} {t' : Nat} (I : Inv X pins σ H s) (mu : Mut (H x)) (he : e = x ∨ H e = some (.own x)) (k : ∀ b u, b ≠ e → s.heap.get? b = some u → h'.get? b = some u) (heo : ∃ u, h'.get? e = some u)
    (new : ObjOk X.prog X.w (upd H x o) h' x o) : Inv X pins σ (upd H x o) { s with heap := h', toks := t' } := I.un (Un.write mu he k heo) (I.hok.write mu he k heo new)
theorem Inv.weak {σ' : List (Option V)} (I : Inv X pins σ H s) (hl : σ'.length = σ.length) (w : ∀ (i : Nat) v, σ'[i]? = some (some v) → σ[i]? = some (some v)) : Inv X pins σ' H s :=
  ⟨I.ok, I.os, I.bare, I.base, let ⟨m, hn, hl'⟩ := I.loc; ⟨m, hn, fun i x v e1 e2 e3 => hl' i x v e1 (w i v e2) e3⟩, I.cell, I.free, I.freeC, I.pin, I.hok, hl.trans I.len⟩
theorem Inv.pins_of {pins' : List (Addr × Obj)} (I : Inv X pins σ H s) (h : ∀ p ∈ pins', s.heap.get? p.1 = some p.2 ∧ H p.1 = none ∧ p.1 ≠ X.env.locals ∧ p.1 ∉ X.fs ∧ ∀ v, p.2.data ≠ .cell v) : Inv X pins' σ H s :=
  ⟨I.ok, I.os, I.bare, I.base, I.loc, I.cell, I.free, I.freeC, fun p hp => (List.mem_append.mp hp).elim (fun z => I.pin p (List.mem_append_left _ z)) (h p), I.hok, I.len⟩
theorem nodup_ix {N : List Str} (hN : N.Nodup) {i j : Nat} {x : Str} (a : N[i]? = some x) (b : N[j]? = some x) : i = j := by
  obtain ⟨h1, e1⟩ := List.getElem?_eq_some_iff.mp a
  obtain ⟨h2, e2⟩ := List.getElem?_eq_some_iff.mp b
  exact (List.getElem_inj hN).mp (e1.trans e2.symm)
theorem store_ok2 {M : Model} {A : Around} {E : Value → Shared → Prop} {i : Nat} {x : Str} {v : V} {u : Value} {Q : Unit → Shared → Prop} (I : Inv X pins σ H s) (hN : X.N.Nodup) (hi : X.N[i]? = some x) (hx : Loc X.env.scope x) (r : RelV v u)
    (h : ∀ s', Inv X pins (σ.set i (some v)) H s' → (∃ a, Heap.SameBut a s.heap s'.heap ∧ (a = X.env.locals ∨ X.env.cells.lookup x = some a)) → Q () s') (hf : X.fn x = true ∨ X.env.scope.names.lookup x = some .local := by first | exact .inl rfl | exact .inr rfl | assumption) : wpAny M A (storeName X.env x u) Q E s := by
  obtain ⟨m, hn, hl⟩ := id I.loc
  have hcls : (X.env.scope.kind == .class || (X.env.scope.kind == .module && X.env.locals != X.env.globals)) = false := by rw [I.ok.kind]; rfl
  have hiσ : i < σ.length := by rw [I.len]; exact (List.getElem?_eq_some_iff.mp hi).1
  have cne := I.cne
  have tracked : ∀ {a : Addr} {h' : Heap}, (∃ o, s.heap.get? a = some o ∧ H a = none) → Heap.SameBut a s.heap h' → HOk X.prog X.w H h' := fun {a h'} ha hs b ob e => by
    obtain ⟨_, _, hfree⟩ := ha
    refine (I.hok b ob e).stay (fun c w' hc q => (hs.2 c ?_).trans q) (fun _ q => q) fun _ _ q => q
    rintro rfl
    rcases hc with rfl | hc
    · rw [hfree] at e; cases e
    · rw [hfree] at hc; cases hc
  rcases hx with hk | hk
  · refine wpAny_storeName_local hk hn (fun h' hn' hs => ?_) hcls
    obtain ⟨oL, _, _, hoL, _⟩ := id hn
    refine h _ ⟨I.ok, I.os, I.bare, ⟨fun b o e n hb hx => ?_, fun b o e n hb hx => ?_, I.base.free, fun b o e hx => ?_, I.base.tups, I.base.frzs, I.base.tbls⟩, ⟨_, hn', fun j y v' e1 e2 e3 => ?_⟩, fun y c e => ?_, I.free, I.freeC, fun p hp => ?_, tracked ⟨oL, hoL, I.free⟩ hs, by simpa using I.len⟩ ⟨_, hs, .inl rfl⟩
    · exact (hs.2 b (Nat.ne_of_lt (Nat.lt_of_lt_of_le (Heap.lt_size e) I.ok.above))).trans (I.base.keep b o e n hb hx)
    · obtain ⟨sl, e1⟩ := I.base.slot b o e n hb hx
      exact ⟨sl, (hs.2 b (Nat.ne_of_lt (Nat.lt_of_lt_of_le (Heap.lt_size e) I.ok.above))).trans e1⟩
    · obtain ⟨o', e1⟩ := I.base.there b o e hx
      exact ⟨o', (hs.2 b (Nat.ne_of_lt (Nat.lt_of_lt_of_le (Heap.lt_size e) I.ok.above))).trans e1⟩
    · by_cases hj : j = i
      · subst hj
        rw [hi] at e1; cases e1
        rw [List.getElem?_set_self hiσ] at e2
        cases e2
        exact ⟨u, r, .inl ⟨hk, by simp⟩⟩
      · rw [List.getElem?_set_ne (Ne.symm hj)] at e2
        obtain ⟨u', r', q⟩ := hl j y v' e1 e2 e3
        refine ⟨u', r', ?_⟩
        rcases q with ⟨k, e⟩ | ⟨k, c, e, z⟩
        · refine .inl ⟨k, ?_⟩
          have : y ≠ x := fun e => hj (nodup_ix hN e1 (e ▸ hi))
          simp [this, e]
        · exact .inr ⟨k, c, e, z.sameBut hs (cne y c e)⟩
    · obtain ⟨w', z⟩ := I.cell y c e
      exact ⟨w', z.sameBut hs (cne y c e)⟩
    · obtain ⟨e, n, ne, nf, d⟩ := I.pin p hp
      exact ⟨(hs.2 p.1 ne).trans e, n, ne, nf, d⟩
  · have hfn : X.fn x = true := by
      rcases hf with z | z
      · exact z
      · rw [z] at hk; cases hk
    obtain ⟨c, hc⟩ := I.ok.has x (.inl hk)
    obtain ⟨w', z⟩ := I.cell x c hc
    refine wpAny_storeName_cell I.ok.kind hk hc z (fun h' hc' hs => ?_)
    obtain ⟨oc, hoc, hocd⟩ := id z
    refine h { s with heap := h' } ⟨I.ok, I.os, I.bare, ⟨fun b o e n hb hx => ?_, fun b o e n hb hx => ?_, I.base.free, fun b o e hx => ?_, I.base.tups, I.base.frzs, I.base.tbls⟩, ⟨m, hn.sameBut hs (Ne.symm (cne x c hc)), fun j y v' e1 e2 e3 => ?_⟩, fun y c' e => ?_, I.free, I.freeC, fun p hp => ?_, tracked ⟨oc, hoc, I.freeC x c hc⟩ hs, by simpa using I.len⟩ ⟨c, hs, .inr hc⟩
    · exact (hs.2 b (Nat.ne_of_lt (Nat.lt_of_lt_of_le (Heap.lt_size e) (I.ok.cab x c hfn hc)))).trans (I.base.keep b o e n hb hx)
    · obtain ⟨sl, e1⟩ := I.base.slot b o e n hb hx
      exact ⟨sl, (hs.2 b (Nat.ne_of_lt (Nat.lt_of_lt_of_le (Heap.lt_size e) (I.ok.cab x c hfn hc)))).trans e1⟩
    · obtain ⟨o', e1⟩ := I.base.there b o e hx
      exact ⟨o', (hs.2 b (Nat.ne_of_lt (Nat.lt_of_lt_of_le (Heap.lt_size e) (I.ok.cab x c hfn hc)))).trans e1⟩
    · by_cases hj : j = i
      · subst hj
        rw [hi] at e1; cases e1
        rw [List.getElem?_set_self hiσ] at e2
        cases e2
        exact ⟨u, r, .inr ⟨.inl hk, c, hc, hc'⟩⟩
      · rw [List.getElem?_set_ne (Ne.symm hj)] at e2
        obtain ⟨u', r', q⟩ := hl j y v' e1 e2 e3
        refine ⟨u', r', ?_⟩
        rcases q with q | ⟨k, c', e, z'⟩
        · exact .inl q
        · refine .inr ⟨k, c', e, z'.sameBut hs ?_⟩
          rintro rfl
          exact hj (nodup_ix hN e1 (I.ok.inj _ _ _ e hc ▸ hi))
    · by_cases hcc : c' = c
      · subst hcc; exact ⟨_, hc'⟩
      · obtain ⟨w2, z2⟩ := I.cell y c' e
        exact ⟨w2, z2.sameBut hs hcc⟩
    · obtain ⟨e, n, ne, nf, d⟩ := I.pin p hp
      refine ⟨(hs.2 p.1 ?_).trans e, n, ne, nf, d⟩
      intro q
      rw [q, hoc] at e
      have q' : oc = p.2 := Option.some.inj e
      exact d w' (by rw [← q']; exact hocd)
theorem store_ok {M : Model} {A : Around} {E : Value → Shared → Prop} {i : Nat} {x : Str} {v : V} {u : Value} {Q : Unit → Shared → Prop} (I : Inv X pins σ H s) (hN : X.N.Nodup) (hi : X.N[i]? = some x) (hx : Loc X.env.scope x) (r : RelV v u)
    (h : ∀ s', Inv X pins (σ.set i (some v)) H s' → Q () s') (hf : X.fn x = true ∨ X.env.scope.names.lookup x = some .local := by first | exact .inl rfl | exact .inr rfl | assumption) : wpAny M A (storeName X.env x u) Q E s :=
  store_ok2 I hN hi hx r (fun s' I' _ => h s' I') hf
theorem Inv.call' {s' : Shared} {ch : List Addr} (I : Inv X pins σ H s) (ho : s'.os = s.os) (u : Un (frs X.stack) ch H H' s.heap s'.heap) (hok : HOk X.prog X.w H' s'.heap) (hg : AllBare s'.gens)
    (hch : ∀ b ∈ ch, (b ∈ X.ex ∨ X.s₀.heap.objs.size ≤ b) ∧ b ≠ X.env.locals ∧ (∀ x c, X.env.cells.lookup x = some c → c ≠ b) ∧ ∀ p ∈ X.pn ++ pins, p.1 ≠ b) : Inv X pins σ H' s' := by
  obtain ⟨h', g', d', t', o'⟩ := s'
  have e : o' = s.os := ho
  subst e
  exact I.call (g' := g') (t' := t') (d' := d') u hok hg hch
end
abbrev XK := Value → Option Addr → Hp → Prop
abbrev St := List (Option V)
abbrev VK := V → Hp → Prop
abbrev TE := St → Hp → VK → Prop
abbrev TT := St → Hp → (Bool → Hp → Prop) → Prop
abbrev TA := St → Hp → (List V → Hp → Prop) → Prop
structure Ends where
  nx : St → Hp → Prop
  rt : VK
  bk : St → Hp → Prop := fun _ _ => False
  ct : St → Hp → Prop := fun _ _ => False
abbrev TS := Ends → St → Hp → Prop
def EP (X : Cx) (pins : List (Addr × Obj)) (σ : St) (Q : VK) (u : Value) (s' : Shared) : Prop := ∃ v H', Inv X pins σ H' s' ∧ RelV v u ∧ Q v H'
def TP (X : Cx) (pins : List (Addr × Obj)) (σ : St) (Q : Bool → Hp → Prop) (b : Bool) (s' : Shared) : Prop := ∃ H', Inv X pins σ H' s' ∧ Q b H'
def AP (X : Cx) (pins : List (Addr × Obj)) (σ : St) (Q : List V → Hp → Prop) (us : List Value) (s' : Shared) : Prop := ∃ vs H', Inv X pins σ H' s' ∧ Vals vs us ∧ Q vs H'
def SP (X : Cx) (pins : List (Addr × Obj)) (D : Ends) (f : Flow) (s' : Shared) : Prop :=
  match f with
  | .next => ∃ σ' H', Inv X pins σ' H' s' ∧ D.nx σ' H'
  | .brk => ∃ σ' H', Inv X pins σ' H' s' ∧ D.bk σ' H'
  | .cont => ∃ σ' H', Inv X pins σ' H' s' ∧ D.ct σ' H'
  | .ret u => ∃ v σ' H', Inv X pins σ' H' s' ∧ RelV v u ∧ D.rt v H'
def PE (X : Cx) (e : Expr) (t : TE) : Prop :=
  ∀ (pins : List (Addr × Obj)) (s : Shared) (σ : St) (H : Hp) (Q : VK), Inv X pins σ H s → t σ H Q → wpAny (model X.prog X.w) X.A (eval e X.env) (EP X pins σ Q) X.xe s
def PT (X : Cx) (e : Expr) (t : TT) : Prop :=
  ∀ (pins : List (Addr × Obj)) (s : Shared) (σ : St) (H : Hp) (Q : Bool → Hp → Prop), Inv X pins σ H s → t σ H Q → wpAny (model X.prog X.w) X.A (isTrue e X.env (eval e X.env)) (TP X pins σ Q) X.xe s
def PW (X : Cx) (e : Expr) (t : TT) : Prop :=
  ∀ (whole : Sem Value) (pins : List (Addr × Obj)) (s : Shared) (σ : St) (H : Hp) (Q : Bool → Hp → Prop), Inv X pins σ H s → t σ H Q → wpAny (model X.prog X.w) X.A (isTrue e X.env whole) (TP X pins σ Q) X.xe s
theorem PW.pt {X : Cx} {e : Expr} {t : TT} (h : PW X e t) : PT X e t := h _
def PA (X : Cx) (es : List Expr) (t : TA) : Prop :=
  ∀ (pos : Pos) (pins : List (Addr × Obj)) (s : Shared) (σ : St) (H : Hp) (Q : List V → Hp → Prop), Inv X pins σ H s → t σ H Q → wpAny (model X.prog X.w) X.A (spliced (backTo pos (starEach es X.env))) (AP X pins σ Q) X.xe s
def PS (X : Cx) (st : Stmt) (t : TS) : Prop :=
  ∀ (pins : List (Addr × Obj)) (s : Shared) (σ : St) (H : Hp) (D : Ends), Inv X pins σ H s → t D σ H → wpAny (model X.prog X.w) X.A (exec st X.env) (SP X pins D) X.xe s
def PSs (X : Cx) (st : List Stmt) (t : TS) : Prop :=
  ∀ (pins : List (Addr × Obj)) (s : Shared) (σ : St) (H : Hp) (D : Ends), Inv X pins σ H s → t D σ H → wpAny (model X.prog X.w) X.A (execs st X.env) (SP X pins D) X.xe s
theorem thn {α : Type} {t : Sem α} {Q Q' : α → Shared → Prop} {M : Model} {A : Around} {E : Value → Shared → Prop} {s : Shared} (h : wpAny M A t Q E s) (hQ : ∀ a s, Q a s → Q' a s) : wpAny M A t Q' E s := wpAny_mono h hQ fun _ _ x => x
end L2
namespace L2
open PySem PySem.Spec PyProof.Rows
section
variable {X : Cx}
def tVar (i : Nat) : TE := fun σ H Q => ∃ v, σ[i]? = some (some v) ∧ Q v H
def tC (v : V) : TE := fun _ H Q => Q v H
theorem pe_var {i : Nat} {x : Str} {pos : Pos} (hN : X.N[i]? = some x) (hv : Vis X.env.scope x) (hd : (x == ("__debug__" : Str)) = false := by decide) (hcd : (x == ("__classdict__" : Str)) = false := by decide) : PE X (.Name x pos) (tVar i) := by
  intro pins s σ H Q I h
  obtain ⟨v, e, h⟩ := h
  obtain ⟨m, hn, hl⟩ := I.loc
  obtain ⟨u, r, l⟩ := hl i x v hN e hv
  have fin : EP X pins σ Q u s := ⟨v, H, I, r, h⟩
  rcases l with ⟨hk, hm⟩ | ⟨hk, c, hc, hcell⟩
  · exact wpAny_Name (wpAny_loadName_local I.ok.kind hk hn hm fin) hd
  · rcases hk with hk | hk
    · exact wpAny_Name (wpAny_loadName_cell I.ok.kind hk hc hcell fin) hd
    · exact wpAny_Name (wpAny_loadName_free I.ok.kind hk hc hcell fin hcd) hd
theorem pe_int {i j pos} : PE X (.Constant (.int i) j pos) (tC (.int i)) := fun _ _ _ H _ I h => wpAny_Constant_int ⟨.int i, H, I.tok _, ⟨_, rfl⟩, h⟩
theorem pe_bl {b j pos} : PE X (.Constant (.bool b) j pos) (tC (.bl b)) := fun _ _ _ H _ I h => Constant_bool ⟨.bl b, H, I, rfl, h⟩
theorem pe_str {x j pos} : PE X (.Constant (.str x) j pos) (tC (.str x)) := fun _ _ _ H _ I h => Calls.Constant_str ⟨.str x, H, I.tok _, ⟨_, rfl⟩, h⟩
def Gl (X : Cx) (x : Str) : Prop := X.env.kindOf x = some .globalImplicit
theorem ld_glob {E : Value → Shared → Prop} {pins : List (Addr × Obj)} {s : Shared} {σ : St} {H : Hp} {x : Str} {u : Value} {pos : Pos} {Q : Value → Shared → Prop} (I : Inv X pins σ H s) (hg : Gl X x) (hm : X.mg x = some u) (h : Q u s)
    (hd : (x == ("__debug__" : Str)) = false := by decide) : wpAny (model X.prog X.w) X.A (eval (.Name x pos) X.env) Q E s :=
  Calls.Name_function_global I.ok.kind hg (Calls.loadGlobal_global (by rw [I.ok.glob]; exact I.mod.glob.keeps I.bk) hm h) hd
theorem ld_blt {E : Value → Shared → Prop} {pins : List (Addr × Obj)} {s : Shared} {σ : St} {H : Hp} {x : Str} {u : Value} {pos : Pos} {Q : Value → Shared → Prop} (I : Inv X pins σ H s) (hg : Gl X x) (hm : X.mg x = none) (hv : bootBuiltins x = some u) (h : Q u s)
    (hn : x ≠ "__name__" := by decide) (hd : (x == ("__debug__" : Str)) = false := by decide) : wpAny (model X.prog X.w) X.A (eval (.Name x pos) X.env) Q E s := by
  obtain ⟨mb, h1, h2⟩ := I.mod.blt
  exact Calls.Name_function_global I.ok.kind hg (Calls.loadGlobal_builtin (by rw [I.ok.glob]; exact I.mod.glob.keeps I.bk) hm (by rw [I.ok.blt]; exact h1.keeps I.bk) ((h2 x hn).trans hv) h) hd
theorem pe_bltn {x : Str} {v : V} {u : Value} {pos : Pos} (hg : Gl X x) (hm : X.mg x = none) (hv : bootBuiltins x = some u) (r : RelV v u) (hn : x ≠ "__name__" := by decide) (hd : (x == ("__debug__" : Str)) = false := by decide) : PE X (.Name x pos) (tC v) :=
  fun _ _ _ H _ I h => ld_blt I hg hm hv ⟨v, H, I, r, h⟩ hn hd
variable {a b : Expr} {ta tb : TE} {pos : Pos}
def tB (t : TE) : TT := fun σ H Q => t σ H fun x H1 => ∃ c, x = .bl c ∧ Q c H1
theorem pt_val {e : Expr} {t : TE} (h : PE X e t) (he : ∀ whole, isTrue e X.env whole = (do let v ← whole; standAt e.pos; holding [v] (truthy v)) := by intro _; rfl) : PT X e (tB t) := by
  intro pins s σ H Q I hw
  refine isTrue_plain (thn (h pins s σ H _ I hw) fun v s1 ⟨x, H1, I1, r1, q1⟩ => ?_) (he _)
  obtain ⟨d, rfl, q⟩ := q1
  cases r1
  exact wpAny_truthy_bool ⟨H1, I1, q⟩
variable {tA tB' : TT} {rest : List Expr}
def tAnd (t u : TT) : TT := fun σ H Q => t σ H fun c H1 => if c = true then u σ H1 Q else Q false H1
def tOr (t u : TT) : TT := fun σ H Q => t σ H fun c H1 => if c = true then Q true H1 else u σ H1 Q
def tNot (t : TT) : TT := fun σ H Q => t σ H fun c H1 => Q (!c) H1
theorem pw_and1 (ha : PT X a tA) : PW X (.BoolOp .And [a] pos) tA := by
  intro wh pins s σ H Q I h
  refine isTrue_and (thn (ha pins s σ H Q I h) fun c s1 e => ?_)
  cases c with
  | true => exact isTrue_and_nil e
  | false => exact e
theorem pw_or1 (ha : PT X a tA) : PW X (.BoolOp .Or [a] pos) tA := by
  intro wh pins s σ H Q I h
  refine isTrue_or (thn (ha pins s σ H Q I h) fun c s1 e => ?_)
  cases c with
  | false => exact isTrue_or_nil e
  | true => exact e
theorem pw_and (ha : PT X a tA) (hb : PW X (.BoolOp .And (b :: rest) pos) tB') : PW X (.BoolOp .And (a :: b :: rest) pos) (tAnd tA tB') := by
  intro wh pins s σ H Q I h
  refine isTrue_and (thn (ha pins s σ H _ I h) fun c s1 ⟨H1, I1, q1⟩ => ?_)
  cases c with
  | true => exact hb wh pins s1 σ H1 Q I1 q1
  | false => exact ⟨H1, I1, q1⟩
theorem pw_or (ha : PT X a tA) (hb : PW X (.BoolOp .Or (b :: rest) pos) tB') : PW X (.BoolOp .Or (a :: b :: rest) pos) (tOr tA tB') := by
  intro wh pins s σ H Q I h
  refine isTrue_or (thn (ha pins s σ H _ I h) fun c s1 ⟨H1, I1, q1⟩ => ?_)
  cases c with
  | true => exact ⟨H1, I1, q1⟩
  | false => exact hb wh pins s1 σ H1 Q I1 q1
theorem pt_not (ha : PT X a tA) : PT X (.UnaryOp .Not a pos) (tNot tA) := by
  intro pins s σ H Q I h
  exact isTrue_not (ha pins s σ H (fun c H1 => Q (!c) H1) I h)
def tIf (t : TT) (ta tb : TE) : TE := fun σ H Q => t σ H fun c H1 => if c = true then ta σ H1 Q else tb σ H1 Q
theorem pe_ifExp {c : Expr} (hc : PT X c tA) (ha : PE X a ta) (hb : PE X b tb) : PE X (.IfExp c a b pos) (tIf tA ta tb) := by
  intro pins s σ H Q I h
  refine wpAny_IfExp (thn (hc pins s σ H _ I h) fun d s1 ⟨H1, I1, q1⟩ => ?_)
  cases d with
  | true => exact ha pins s1 σ H1 Q I1 q1
  | false => exact hb pins s1 σ H1 Q I1 q1
end
end L2
namespace L2
open PySem PySem.Spec PyProof.Rows
def SqL (K : PySem.W.Frag) (H : Hp) (a : Addr) (xs : List V) : Prop :=
  Rd H a (.lst xs) ∨
    ∃ (o : Obj) (its : Array Value) (n : Nat), K.lookup a = some o ∧ o.cls = .type "list" ∧ o.dict = none ∧ o.data = .seq its n ∧ its.size ≤ sizeLine ∧ Vals xs its.toList
def SqT (K : PySem.W.Frag) (H : Hp) (a : Addr) (xs : List V) : Prop :=
  Rd H a (.tup xs) ∨
    ∃ (o : Obj) (its : Array Value) (n : Nat), K.lookup a = some o ∧ o.cls = .type "tuple" ∧ o.data = .seq its n ∧ its.size ≤ sizeLine ∧ Vals xs its.toList
def absV : Value → Option V
  | .none => some .non
  | .bool b => some (.bl b)
  | .int i _ => some (.int i)
  | .str x _ => some (.str x)
  | .bytes b _ => some (.byt b)
  | .float b _ => some (.flt b)
  | .ref a => some (.ref a)
  | .type n => some (.ty n)
  | _ => none
theorem RelV.abs {x : V} {u : Value} (r : RelV x u) : absV u = some x := by
  cases x with
  | non => cases r; rfl
  | bl _ => cases r; rfl
  | int _ => obtain ⟨t, rfl⟩ := r; rfl
  | str _ => obtain ⟨t, rfl⟩ := r; rfl
  | byt _ => obtain ⟨t, rfl⟩ := r; rfl
  | flt _ => obtain ⟨t, rfl⟩ := r; rfl
  | ref _ => cases r; rfl
  | ty _ => cases r; rfl
theorem RelV.inj {x y : V} {u : Value} (r : RelV x u) (q : RelV y u) : x = y := Option.some.inj (r.abs.symm.trans q.abs)
theorem Vals.inj : ∀ {xs ys : List V} {us : List Value}, Vals xs us → Vals ys us → xs = ys
  | _, _, _, .nil, .nil => rfl
  | _, _, _, .cons r t, .cons r' t' => by rw [r.inj r', Vals.inj t t']
section
variable {X : Cx} {pins : List (Addr × Obj)} {σ : St} {H : Hp} {s : Shared} {a : Addr} {xs ys : List V}
theorem SqL.of {K : PySem.W.Frag} (h : H a = some (.lst xs)) : SqL K H a xs := .inl (.inl h)
theorem SqT.of {K : PySem.W.Frag} (h : H a = some (.tup xs)) : SqT K H a xs := .inl (.inl h)
theorem Inv.list (I : Inv X pins σ H s) (h : SqL X.K H a xs) : ∃ its : List Value, Vals xs its ∧ PlainL s.heap a its.toArray ∧ xs.length ≤ sizeLine := by
  rcases h with h | ⟨o, its, n, hk, hc, hd, hs, hz, r⟩
  · obtain ⟨z, its, n, r, e⟩ := h.ok I.hok
    exact ⟨its, r, ⟨_, n, e, rfl, rfl, rfl⟩, z⟩
  · refine ⟨its.toList, r, ⟨o, n, I.kIn a o hk, hc, hd, by simpa using hs⟩, ?_⟩
    have e := r.length
    simp only [Array.length_toList] at e
    omega
theorem Inv.tuple (I : Inv X pins σ H s) (h : SqT X.K H a xs) : ∃ its : List Value, Vals xs its ∧ IsTup s.heap a its.toArray ∧ xs.length ≤ sizeLine := by
  rcases h with h | ⟨o, its, n, hk, hc, hs, hz, r⟩
  · obtain ⟨z, its, r, p⟩ := h.ok I.hok
    exact ⟨its, r, p, z⟩
  · refine ⟨its.toList, r, ⟨o, I.kIn a o hk, hc, n, by simpa using hs⟩, ?_⟩
    have e := r.length
    simp only [Array.length_toList] at e
    omega
theorem Inv.list_inj (I : Inv X pins σ H s) (h : SqL X.K H a xs) (h' : SqL X.K H a ys) : xs = ys := by
  obtain ⟨its, r, ⟨o, n, e, _, _, d⟩, _⟩ := I.list h
  obtain ⟨its', r', ⟨o', n', e', _, _, d'⟩, _⟩ := I.list h'
  rw [e] at e'; cases e'
  rw [d] at d'
  injection d' with d1 _
  have : its = its' := by simpa using congrArg Array.toList d1
  subst this
  exact r.inj r'
theorem Inv.tuple_inj (I : Inv X pins σ H s) (h : SqT X.K H a xs) (h' : SqT X.K H a ys) : xs = ys := by
  obtain ⟨its, r, ⟨o, e, _, n, d⟩, _⟩ := I.tuple h
  obtain ⟨its', r', ⟨o', e', _, n', d'⟩, _⟩ := I.tuple h'
  rw [e] at e'; cases e'
  rw [d] at d'
  injection d' with d1 _
  have : its = its' := by simpa using congrArg Array.toList d1
  subst this
  exact r.inj r'
end
abbrev Cx.wish (X : Cx) (E : Value → Shared → Prop) : Cx := { X with xe := E }
abbrev Cx.nox (X : Cx) : Cx := X.wish fun _ _ => False
theorem Cx.Ok.wish {X : Cx} (ok : X.Ok) (E : Value → Shared → Prop) : (X.wish E).Ok :=
  ⟨ok.mod, ok.kind, ok.glob, ok.blt, ok.above, ok.inj, ok.has, ok.cab, ok.hd, ok.frames, ok.stk, ok.exf, ok.bs, ok.bsz, ok.noex, ok.exfs, ok.funs, ok.frf⟩
theorem Cx.Ok.unwish {X : Cx} {E : Value → Shared → Prop} (ok : (X.wish E).Ok) : X.Ok :=
  ⟨ok.mod, ok.kind, ok.glob, ok.blt, ok.above, ok.inj, ok.has, ok.cab, ok.hd, ok.frames, ok.stk, ok.exf, ok.bs, ok.bsz, ok.noex, ok.exfs, ok.funs, ok.frf⟩
section
variable {X : Cx} {pins : List (Addr × Obj)} {σ : St} {H : Hp} {s : Shared} {E : Value → Shared → Prop}
theorem Inv.wish (I : Inv X pins σ H s) (E : Value → Shared → Prop) : Inv (X.wish E) pins σ H s := ⟨I.ok.wish E, I.os, I.bare, I.base, I.loc, I.cell, I.free, I.freeC, I.pin, I.hok, I.len⟩
theorem Inv.unwish (I : Inv (X.wish E) pins σ H s) : Inv X pins σ H s := ⟨I.ok.unwish, I.os, I.bare, I.base, I.loc, I.cell, I.free, I.freeC, I.pin, I.hok, I.len⟩
theorem SP.unwish {D : Ends} {f : Flow} {s' : Shared} (h : SP (X.wish E) pins D f s') : SP X pins D f s' := by
  cases f with
  | next => obtain ⟨σ', H', I, q⟩ := h; exact ⟨σ', H', I.unwish, q⟩
  | brk => obtain ⟨σ', H', I, q⟩ := h; exact ⟨σ', H', I.unwish, q⟩
  | cont => obtain ⟨σ', H', I, q⟩ := h; exact ⟨σ', H', I.unwish, q⟩
  | ret u => obtain ⟨v, σ', H', I, r, q⟩ := h; exact ⟨v, σ', H', I.unwish, r, q⟩
theorem PE.nox {e : Expr} {t : TE} (h : PE X.nox e t) : PE X e t := fun pins s σ H Q I hw =>
  wpAny_mono (h pins s σ H Q (I.wish _) hw) (fun _ _ ⟨v, H', I', r, q⟩ => ⟨v, H', I'.unwish, r, q⟩) fun _ _ z => False.elim z
theorem PT.nox {e : Expr} {t : TT} (h : PT X.nox e t) : PT X e t := fun pins s σ H Q I hw =>
  wpAny_mono (h pins s σ H Q (I.wish _) hw) (fun _ _ ⟨H', I', q⟩ => ⟨H', I'.unwish, q⟩) fun _ _ z => False.elim z
theorem PSs.nox {st : List Stmt} {t : TS} (h : PSs X.nox st t) : PSs X st t := fun pins s σ H D I hw =>
  wpAny_mono (h pins s σ H D (I.wish _) hw) (fun _ _ q => q.unwish) fun _ _ z => False.elim z
end
section
variable {X : Cx} {st : Stmt} {rest : List Stmt} {t u : TS} {e : Expr} {te : TE} {pos : Pos}
def tNext : TS := fun D σ H => D.nx σ H
def tSeq (t u : TS) : TS := fun D σ H => t { D with nx := u D } σ H
theorem pss_nil : PSs X [] tNext := fun _ _ σ H _ I h => wpAny_execs_nil ⟨σ, H, I, h⟩
theorem pss_cons (h1 : PS X st t) (h2 : PSs X rest u) : PSs X (st :: rest) (tSeq t u) := by
  intro pins s σ H D I h
  refine wpAny_execs_cons (thn (h1 pins s σ H { D with nx := u D } I h) fun f s1 q => ?_)
  cases f with
  | next =>
    obtain ⟨σ', H', I', q⟩ := q
    exact h2 pins s1 σ' H' D I' q
  | ret v => exact q
  | brk => exact q
  | cont => exact q
theorem pss_one (h1 : PS X st t) : PSs X [st] t := by
  intro pins s σ H D I h
  refine wpAny_execs_cons (thn (h1 pins s σ H D I h) fun f s1 q => ?_)
  cases f with
  | next => exact wpAny_execs_nil q
  | ret v => exact q
  | brk => exact q
  | cont => exact q
theorem Inv.quiet {pins : List (Addr × Obj)} {σ : St} {H : Hp} {s : Shared} (I : Inv X pins σ H s) : interactive X.env = false := by simp [interactive, I.ok.kind]
def tDrop (te : TE) : TS := fun D σ H => te σ H fun _ H1 => D.nx σ H1
theorem ps_expr (he : PE X e te) (hs : swapsWith e none pos.line X.env = pure false := by rfl) : PS X (.Expr e pos) (tDrop te) := by
  intro pins s σ H D I h
  exact wpAny_Expr_any (thn (he pins s σ H _ I h) fun v s1 ⟨x, H1, I1, r1, q1⟩ => ⟨σ, H1, I1, q1⟩) I.quiet hs
def tRet (te : TE) : TS := fun D σ H => te σ H D.rt
theorem ps_ret (he : PE X e te) : PS X (.Return (some e) pos) (tRet te) := by
  intro pins s σ H D I h
  exact wpAny_Return_some (thn (he pins s σ H _ I h) fun v s1 ⟨x, H1, I1, r1, q1⟩ => ⟨x, σ, H1, I1, r1, q1⟩)
def tIfS (c : TT) (t u : TS) : TS := fun D σ H => c σ H fun b H1 => if b = true then t D σ H1 else u D σ H1
theorem ps_if {c : Expr} {a b : List Stmt} {tc : TT} (hc : PT X c tc) (ha : PSs X a t) (hb : PSs X b u) : PS X (.If c a b pos) (tIfS tc t u) := by
  intro pins s σ H D I h
  refine wpAny_If (thn (hc pins s σ H _ I h) fun d s1 ⟨H1, I1, q1⟩ => ?_)
  cases d with
  | true => exact ha pins s1 σ H1 D I1 q1
  | false => exact hb pins s1 σ H1 D I1 q1
end
abbrev TG := V → St → Hp → (St → Hp → Prop) → Prop
abbrev TGs := List V → St → Hp → (St → Hp → Prop) → Prop
def PG (X : Cx) (target : Expr) (t : TG) : Prop :=
  ∀ (pins : List (Addr × Obj)) (s : Shared) (σ : St) (H : Hp) (v : V) (u : Value) (Q : St → Hp → Prop), Inv X pins σ H s → RelV v u → t v σ H Q →
    wpAny (model X.prog X.w) X.A (assign target X.env u) (fun _ s' => ∃ σ' H', Inv X pins σ' H' s' ∧ Q σ' H') X.xe s
def PGs (X : Cx) (ts : List Expr) (t : TGs) : Prop :=
  ∀ (pins : List (Addr × Obj)) (s : Shared) (σ : St) (H : Hp) (vs : List V) (us : List Value) (Q : St → Hp → Prop), Inv X pins σ H s → Vals vs us → t vs σ H Q →
    wpAny (model X.prog X.w) X.A (assignInOrder ((assignEach ts X.env).map (·.2)) us) (fun _ s' => ∃ σ' H', Inv X pins σ' H' s' ∧ Q σ' H') X.xe s
abbrev TIp := V → V → Hp → VK → Prop
def PIp (X : Cx) (op : Operator) (t : TIp) : Prop :=
  ∀ (pins : List (Addr × Obj)) (s : Shared) (σ : St) (H : Hp) (x y : V) (v u : Value) (Q : VK), Inv X pins σ H s → RelV x v → RelV y u → t x y H Q →
    wpAny (model X.prog X.w) X.A (inplaceOp op v u) (EP X pins σ Q) X.xe s
section
variable {X : Cx} {pos : Pos}
def gName (i : Nat) : TG := fun v σ H Q => Q (σ.set i (some v)) H
theorem pg_name {i : Nat} {x : Str} (hN : X.N.Nodup) (hi : X.N[i]? = some x) (hx : Loc X.env.scope x) (hf : X.fn x = true ∨ X.env.scope.names.lookup x = some .local := by first | exact .inl rfl | exact .inr rfl | assumption) : PG X (.Name x pos) (gName i) := by
  intro pins s σ H v u Q I r h
  exact wpAny_assign_Name (store_ok I hN hi hx r (fun s' I' => ⟨_, H, I', h⟩) hf)
def gNil : TGs := fun vs σ H Q => vs = [] ∧ Q σ H
def gCons (t : TG) (u : TGs) : TGs := fun vs σ H Q => ∃ v r, vs = v :: r ∧ t v σ H fun σ' H' => u r σ' H' Q
theorem pgs_nil : PGs X [] gNil := by
  intro pins s σ H vs us Q I r h
  obtain ⟨e, h⟩ := h
  subst e
  cases r
  exact assignInOrder_nil ⟨σ, H, I, h⟩
theorem pgs_cons {e : Expr} {es : List Expr} {t : TG} {u : TGs} (h1 : PG X e t) (h2 : PGs X es u)
    (hs : (assignEach (e :: es) X.env).map (·.2) = assign e X.env :: (assignEach es X.env).map (·.2) := by rfl) : PGs X (e :: es) (gCons t u) := by
  intro pins s σ H vs us Q I r h
  obtain ⟨v, vr, e1, h⟩ := h
  subst e1
  cases r with
  | cons r rr =>
    rw [hs]
    refine assignInOrder_cons (thn (h1 pins s σ H _ _ _ I r h) fun _ s1 ⟨σ1, H1, I1, q1⟩ => ?_)
    exact h2 pins s1 σ1 H1 _ _ Q I1 rr q1
def gTup (K : PySem.W.Frag) (n : Nat) (t : TGs) : TG := fun v σ H Q => ∃ a xs, v = .ref a ∧ SqT K H a xs ∧ xs.length = n ∧ t xs σ H Q
theorem pg_tup {es : List Expr} {k : Nat} {t : TGs} {n : Nat} (hc : X.calm = true) (h : PGs X es t)
    (hn : (assignEach es X.env).length = n := by rfl) (hst : (assignEach es X.env).findIdx? (·.1) = none := by rfl) : PG X (.Tuple es k pos) (gTup X.K n t) := by
  intro pins s σ H v u Q I r hw
  obtain ⟨a, xs, e1, hq, hl, hw⟩ := hw
  subst e1
  cases r
  obtain ⟨its, rv, ht, hz⟩ := I.tuple hq
  refine assign_Tuple_tuple (I.ok.hd hc) ht (by simp [hn, ← hl, rv.length]) hst fun h' hx => ?_
  have I1 : Inv X pins σ H { s with heap := h' } := I.kept (t' := s.toks) fun b o e => hx b o (Nat.ne_of_lt (Heap.lt_size e)) e
  exact h pins _ σ H xs _ Q I1 (by simpa using rv) hw
def tAsg (te : TE) (g : TG) : TS := fun D σ H => te σ H fun x H1 => g x σ H1 D.nx
theorem ps_asg {tg e : Expr} {te : TE} {g : TG} (he : PE X e te) (hg : PG X tg g) (hs : swapsWithSole [tg] e pos.line X.env = pure false := by rfl) (hw : swappedStores [tg] e X.env = pure none := by rfl)
    (h1 : (assignEach [tg] X.env).map (·.2) = [assign tg X.env] := by rfl) : PS X (.Assign [tg] e pos) (tAsg te g) := by
  intro pins s σ H D I h
  refine wpAny_Assign_stores (thn (he pins s σ H _ I h) fun v s1 ⟨x, H1, I1, r1, q1⟩ => ?_) hs hw
  rw [h1]
  exact thn (hg pins s1 σ H1 x v _ I1 r1 q1) fun _ s2 q => q
theorem ps_set {i : Nat} {x : Str} {e : Expr} {te : TE} {pos' : Pos} (hN : X.N.Nodup) (hi : X.N[i]? = some x) (hx : Loc X.env.scope x) (he : PE X e te) (hs : swapsWith e (some (.Name x pos')) pos.line X.env = pure false := by rfl) (hf : X.fn x = true ∨ X.env.scope.names.lookup x = some .local := by first | exact .inl rfl | exact .inr rfl | assumption) :
    PS X (.Assign [.Name x pos'] e pos) (tAsg te (gName i)) := by
  intro pins s σ H D I h
  refine wpAny_Assign_Name (thn (he pins s σ H _ I h) fun v s1 ⟨y, H1, I1, r1, q1⟩ => ?_) hs
  exact store_ok I1 hN hi hx r1 (fun s2 I2 => ⟨_, H1, I2, q1⟩) hf
def tAug (i : Nat) (te : TE) (ti : TIp) : TS := fun D σ H => ∃ x, σ[i]? = some (some x) ∧ te σ H fun y H1 => ti x y H1 fun z H2 => D.nx (σ.set i (some z)) H2
theorem ps_aug {i : Nat} {x : Str} {e : Expr} {te : TE} {op : Operator} {ti : TIp} {pos' : Pos} (hN : X.N.Nodup) (hi : X.N[i]? = some x) (hx : Loc X.env.scope x) (he : PE X e te) (ho : PIp X op ti) (hf : X.fn x = true ∨ X.env.scope.names.lookup x = some .local := by first | exact .inl rfl | exact .inr rfl | assumption) :
    PS X (.AugAssign (.Name x pos') op e pos) (tAug i te ti) := by
  intro pins s σ H D I h
  obtain ⟨v, e1, h⟩ := h
  obtain ⟨m, hn, hl⟩ := I.loc
  have vis : Vis X.env.scope x := by rcases hx with k | k; exact .inl k; exact .inr (.inl k)
  obtain ⟨u, r, l⟩ := hl i x v hi e1 vis
  refine wpAny_AugAssign_Name ?_
  have go : wpAny (model X.prog X.w) X.A (eval e X.env) (fun w s₂ => wpAny (model X.prog X.w) X.A (inplaceOp op u w) (fun r s₃ => wpAny (model X.prog X.w) X.A (storeName X.env x r) (fun _ => SP X pins D .next) X.xe s₃) X.xe s₂) X.xe s := by
    refine thn (he pins s σ H _ I h) fun w s1 ⟨y, H1, I1, r1, q1⟩ => ?_
    refine thn (ho pins s1 σ H1 v y u w _ I1 r r1 q1) fun z s2 ⟨zv, H2, I2, r2, q2⟩ => ?_
    exact store_ok I2 hN hi hx r2 (fun s3 I3 => ⟨_, H2, I3, q2⟩) hf
  rcases l with ⟨hk, hm⟩ | ⟨hk, c, hc, hcell⟩
  · exact wpAny_loadName_local I.ok.kind hk hn hm go
  · rcases hk with hk | hk
    · exact wpAny_loadName_cell I.ok.kind hk hc hcell go
    · rcases hx with k | k
      · have : X.env.scope.names.lookup x = some .free := hk
        rw [k] at this; cases this
      · have : X.env.scope.names.lookup x = some .free := hk
        rw [k] at this; cases this
def ipI (f : Int → Int → Int) : TIp := fun x y H Q => ∃ i j, x = .int i ∧ y = .int j ∧ Q (.int (f i j)) H
theorem ip_add : PIp X .Add (ipI fun i j => i + j) := by
  intro pins s σ H x y v u Q I r1 r2 h
  obtain ⟨i, j, e1, e2, q⟩ := h
  subst e1; subst e2
  obtain ⟨t, rfl⟩ := r1
  obtain ⟨t', rfl⟩ := r2
  exact iadd_int ⟨.int _, H, I.tok _, ⟨_, rfl⟩, q⟩
end
section
variable {X : Cx} {pos : Pos}
end
structure It where
  go : Nat → Hp → Prop
  yld : Nat → Hp → V → Hp → Prop
  stop : Nat → Hp → Prop
def FpOk (X : Cx) (pins : List (Addr × Obj)) (H : Hp) (b : Addr) : Prop :=
  H b = none ∧ b ≠ X.env.locals ∧ b ∉ X.fs ∧ (b ∈ X.ex ∨ X.s₀.heap.objs.size ≤ b) ∧ (∀ x c, X.env.cells.lookup x = some c → c ≠ b) ∧ ∀ p ∈ X.pn ++ pins, p.1 ≠ b
theorem Inv.fpOk {X : Cx} {pins : List (Addr × Obj)} {σ : St} {H H' : Hp} {s : Shared} {b : Addr} (I : Inv X pins σ H s) (hb : s.heap.objs.size ≤ b) (hn : H' b = none) : FpOk X pins H' b := by
  refine ⟨hn, Nat.ne_of_gt (Nat.lt_of_lt_of_le I.lt hb), I.nofs hb, .inr (Nat.le_trans I.sz hb), fun x c e z => ?_, fun p hp z => ?_⟩
  · obtain ⟨v, q⟩ := I.cell x c e
    exact absurd (Nat.lt_of_lt_of_le q.lt (by rw [z]; exact hb)) (Nat.lt_irrefl _)
  · exact absurd (Nat.lt_of_lt_of_le (Heap.lt_size (I.pin p hp).1) (by rw [z]; exact hb)) (Nat.lt_irrefl _)
structure Turn (P : Program) (w : World) (K : PySem.W.Frag) (tg : Expr) (J : It) (fp : List Addr) (it : Addr) (tn : Nat → Heap → Prop) : Prop where
  mem : it ∈ fp
  obj : ∀ i h, tn i h → ∀ b ∈ fp, ∃ o, h.get? b = some o ∧ ∀ v, o.data ≠ .cell v
  keep : ∀ i h h', tn i h → (∀ b ∈ fp, ∀ o, h.get? b = some o → h'.get? b = some o) → tn i h'
  item : ∀ (X : Cx), X.prog = P → X.w = w → X.K = K → X.calm = true → ∀ (i : Nat) (pins : List (Addr × Obj)) (s : Shared) (σ : St) (H : Hp) (E : Value → Shared → Prop), Inv X pins σ H s → (∀ b ∈ fp, FpOk X pins H b) → tn i s.heap → J.go i H →
    wpAny (model P w) X.A (pyNext (.ref it)) (fun r s1 => ∃ u, r = some u ∧
      wpAny (model P w) X.A (letOwnedTupleGo tg (.ref it) u) (fun _ s2 => ∃ x H', Inv X pins σ H' s2 ∧ RelV x u ∧ J.yld i H x H' ∧ tn (i + 1) s2.heap ∧ ∀ b ∈ fp, H' b = none) E s1) E s
  done : ∀ (X : Cx), X.prog = P → X.w = w → X.K = K → X.calm = true → ∀ (i : Nat) (pins : List (Addr × Obj)) (s : Shared) (σ : St) (H : Hp) (E : Value → Shared → Prop), Inv X pins σ H s → (∀ b ∈ fp, FpOk X pins H b) → tn i s.heap → J.stop i H →
    wpAny (model P w) X.A (pyNext (.ref it)) (fun r s1 => r = none ∧ Inv X pins σ H s1) E s
  self : ∀ (A : Around) (i : Nat) (s : Shared) (Q : Value → Shared → Prop) (E : Value → Shared → Prop), tn i s.heap → Q (.ref it) s → wpAny (model P w) A (pyIter (.ref it)) Q E s
abbrev TI := St → Hp → (It → Hp → Prop) → Prop
def PIE (X : Cx) (pins : List (Addr × Obj)) (σ : St) (tg : Expr) (R : It → Hp → Prop) (itv : Value) (s2 : Shared) : Prop :=
  ∃ (it : Addr) (fp : List Addr) (tn : Nat → Heap → Prop) (J : It) (H' : Hp), itv = .ref it ∧ Inv X pins σ H' s2 ∧ Turn X.prog X.w X.K tg J fp it tn ∧ tn 0 s2.heap ∧ (∀ b ∈ fp, FpOk X pins H' b) ∧ R J H'
def PI (X : Cx) (tg iter : Expr) (wi : TI) : Prop :=
  ∀ (pins : List (Addr × Obj)) (s : Shared) (σ : St) (H : Hp) (R : It → Hp → Prop), Inv X pins σ H s → wi σ H R →
    wpAny (model X.prog X.w) X.A (eval iter X.env) (fun v s1 => wpAny (model X.prog X.w) X.A (pyIter v) (PIE X pins σ tg R) X.xe s1) X.xe s
theorem go_of {M : Model} {A : Around} {E : Value → Shared → Prop} {s : Shared} {tg : Expr} {it : Addr} {u : Value} {o : Obj} {n : String} {vs : Array Value} {Q : Unit → Shared → Prop} (ho : s.heap.get? it = some o) (hc : o.cls = .type n) (hd : o.data = .fields vs)
    (hn : ["enumerate", "zip", "dict_itemiterator", "dict_reverseitemiterator", "odict_iterator", "itertools.zip_longest", "itertools.pairwise"].contains n = false) (hQ : Q () s) : wpAny M A (letOwnedTupleGo tg (.ref it) u) Q E s := by
  unfold letOwnedTupleGo
  cases tg <;> first
    | exact wpAny_pure hQ
    | (cases u <;> first
        | exact wpAny_pure hQ
        | (refine wpAny_bind (wpAny_load ho ?_)
           rw [hc, hd]
           show wpAny M A (if (["enumerate", "zip", "dict_itemiterator", "dict_reverseitemiterator", "odict_iterator", "itertools.zip_longest", "itertools.pairwise"].contains n && vs[0]? == some (rawInt _)) = true then _ else _) Q E s
           rw [if_neg (by intro h; rw [hn, Bool.false_and] at h; cases h)]
           exact wpAny_pure hQ))
def Itl (K : PySem.W.Frag) (a : Addr) : It :=
  ⟨fun i H => ∃ xs x, SqL K H a xs ∧ xs[i]? = some x, fun i H x H' => H' = H ∧ ∀ xs, SqL K H a xs → xs[i]? = some x, fun i H => ∃ xs, SqL K H a xs ∧ xs.length ≤ i⟩
def Itt (K : PySem.W.Frag) (a : Addr) : It :=
  ⟨fun i H => ∃ xs x, SqT K H a xs ∧ xs[i]? = some x, fun i H x H' => H' = H ∧ ∀ xs, SqT K H a xs → xs[i]? = some x, fun i H => ∃ xs, SqT K H a xs ∧ xs.length ≤ i⟩
def Itr (lo : Int) (n : Nat) : It := ⟨fun i _ => i < n, fun i H x H' => H' = H ∧ x = .int (lo + i), fun i _ => n ≤ i⟩
theorem turn_list {P : Program} {w : World} {K : PySem.W.Frag} {tg : Expr} (a it : Addr) : Turn P w K tg (Itl K a) [it] it (fun i h => h.IsListIter it a i) where
  mem := by simp
  obj := fun i h st b hb => by
    have e : b = it := by simpa using hb
    subst e
    obtain ⟨o, e, c, d⟩ := st
    exact ⟨o, e, fun v z => by rw [d] at z; cases z⟩
  keep := fun i h h' st k => st.at fun o e => k it (by simp) o e
  item := by
    intro X hP hw hK hc i pins s σ H E I hf st hg
    subst hP hw hK
    obtain ⟨xs, x, hq, hx⟩ := hg
    obtain ⟨its, rv, p, hz⟩ := I.list hq
    obtain ⟨u, hu, ru⟩ := rv.get hx
    obtain ⟨f0, f1, f2, f3, f4, f5⟩ := hf it (by simp)
    refine wpAny_pyNext_list_item st p.isList (x := u) (by simpa using hu) fun h' st' sb => ?_
    have I1 : Inv X pins σ H { s with heap := h' } := I.turned (t' := s.toks) (fun b o hb e => (sb.2 b hb).trans e) f0 f1 f3 f4 f5
    obtain ⟨o, e, c, d⟩ := id st'
    exact ⟨u, rfl, go_of (s := { s with heap := h' }) e c d (by decide) ⟨x, H, I1, ru, ⟨rfl, fun ys hy => by rw [I.list_inj hy hq]; exact hx⟩, st', fun b hb => (hf b hb).1⟩⟩
  done := by
    intro X hP hw hK hc i pins s σ H E I hf st hg
    subst hP hw hK
    obtain ⟨xs, hq, hx⟩ := hg
    obtain ⟨its, rv, p, hz⟩ := I.list hq
    obtain ⟨f0, f1, f2, f3, f4, f5⟩ := hf it (by simp)
    have hl := rv.length
    exact wpAny_pyNext_list_end (I.ok.hd hc) st p.isList (by simp; omega) fun h' eb => ⟨rfl, I.turned (t' := s.toks) (fun b o hb e => eb b o hb e) f0 f1 f3 f4 f5⟩
  self := fun _ _ _ _ _ st h => wpAny_pyIter_listiter st h
theorem turn_tuple {P : Program} {w : World} {K : PySem.W.Frag} {tg : Expr} (a it : Addr) : Turn P w K tg (Itt K a) [it] it (fun i h => h.IsTupleIter it a i) where
  mem := by simp
  obj := fun i h st b hb => by
    have e : b = it := by simpa using hb
    subst e
    obtain ⟨o, e, c, d⟩ := st
    exact ⟨o, e, fun v z => by rw [d] at z; cases z⟩
  keep := fun i h h' st k => st.at fun o e => k it (by simp) o e
  item := by
    intro X hP hw hK hc i pins s σ H E I hf st hg
    subst hP hw hK
    obtain ⟨xs, x, hq, hx⟩ := hg
    obtain ⟨its, rv, p, hz⟩ := I.tuple hq
    obtain ⟨u, hu, ru⟩ := rv.get hx
    obtain ⟨f0, f1, f2, f3, f4, f5⟩ := hf it (by simp)
    refine wpAny_pyNext_tuple_item st (show s.heap.IsTuple a its.toArray from p) (x := u) (by simpa using hu) fun h' st' sb => ?_
    have I1 : Inv X pins σ H { s with heap := h' } := I.turned (t' := s.toks) (fun b o hb e => (sb.2 b hb).trans e) f0 f1 f3 f4 f5
    obtain ⟨o, e, c, d⟩ := id st'
    exact ⟨u, rfl, go_of (s := { s with heap := h' }) e c d (by decide) ⟨x, H, I1, ru, ⟨rfl, fun ys hy => by rw [I.tuple_inj hy hq]; exact hx⟩, st', fun b hb => (hf b hb).1⟩⟩
  done := by
    intro X hP hw hK hc i pins s σ H E I hf st hg
    subst hP hw hK
    obtain ⟨xs, hq, hx⟩ := hg
    obtain ⟨its, rv, p, hz⟩ := I.tuple hq
    obtain ⟨f0, f1, f2, f3, f4, f5⟩ := hf it (by simp)
    have hl := rv.length
    exact wpAny_pyNext_tuple_end (I.ok.hd hc) st (show s.heap.IsTuple a its.toArray from p) (by simp; omega) fun h' eb => ⟨rfl, I.turned (t' := s.toks) (fun b o hb e => eb b o hb e) f0 f1 f3 f4 f5⟩
  self := fun _ _ _ _ _ st h => wpAny_pyIter_tupleiter st h
theorem turn_range {P : Program} {w : World} {K : PySem.W.Frag} {tg : Expr} (it : Addr) (lo : Int) (n : Nat) : Turn P w K tg (Itr lo n) [it] it (fun i h => IsRangeIter h it (lo + (i : Nat) * 1) ((n : Int) - (i : Nat)) 1) where
  mem := by simp
  obj := fun i h st b hb => by
    have e : b = it := by simpa using hb
    subst e
    exact ⟨_, st, fun v z => by
      have z' : Data.fields _ = Data.cell v := z
      cases z'⟩
  keep := fun i h h' st k => k it (by simp) _ st
  item := by
    intro X hP hw hK hc i pins s σ H E I hf st hg
    subst hP hw hK
    obtain ⟨f0, f1, f2, f3, f4, f5⟩ := hf it (by simp)
    have W := Walks.range (prog := X.prog) (w := X.w) (I.ok.hd hc) it lo 1 n
    refine W.item i s _ _ hg st fun v h' tk hv st' kk => ?_
    obtain ⟨t, rfl⟩ := hv
    have I1 : Inv X pins σ H { s with heap := h', toks := tk } := I.turned (fun b o hb e => kk b o (by simpa using hb) e) f0 f1 f3 f4 f5
    refine ⟨_, rfl, go_of (s := { s with heap := h', toks := tk }) (n := "range_iterator") st' rfl rfl (by decide) ⟨.int (lo + i), H, I1, ⟨t, ?_⟩, ⟨rfl, rfl⟩, st', fun b hb => (hf b hb).1⟩⟩
    rw [Int.mul_one]
  done := by
    intro X hP hw hK hc i pins s σ H E I hf st hg
    subst hP hw hK
    obtain ⟨f0, f1, f2, f3, f4, f5⟩ := hf it (by simp)
    exact wpAny_pyNext_range_end (I.ok.hd hc) st (by have : n ≤ i := hg; omega) fun h' eb => ⟨rfl, I.turned (t' := s.toks) (fun b o hb e => eb b o hb e) f0 f1 f3 f4 f5⟩
  self := fun _ _ _ _ _ st h => wpAny_pyIter_rangeiter st h
end L2
namespace L2
open PySem PySem.Spec PyProof.Rows
section
variable {X : Cx} {tg : Expr}
def iList (K : PySem.W.Frag) (tl : TE) : TI := fun σ H R => tl σ H fun x H1 => ∃ a, x = .ref a ∧ (∃ xs, SqL K H1 a xs) ∧ R (Itl K a) H1
def iTup (K : PySem.W.Frag) (tl : TE) : TI := fun σ H R => tl σ H fun x H1 => ∃ a, x = .ref a ∧ (∃ xs, SqT K H1 a xs) ∧ R (Itt K a) H1
theorem pi_list {l : Expr} {tl : TE} (hl : PE X l tl) : PI X tg l (iList X.K tl) := by
  intro pins s σ H R I h
  refine thn (hl pins s σ H _ I h) fun v s1 ⟨x, H1, I1, r1, q1⟩ => ?_
  obtain ⟨a, e, ⟨xs, hq⟩, q⟩ := q1
  subst e
  cases r1
  obtain ⟨its, rv, p, hz⟩ := I1.list hq
  refine wpAny_pyIter_list p.isList ?_
  refine ⟨s1.heap.objs.size, [s1.heap.objs.size], _, _, H1, rfl, I1.kept (t' := s1.toks) fun b o e => Heap.get?_push_of_some _ e, turn_list a _, ⟨_, Heap.get?_push_size _ rfl, rfl, rfl⟩, fun b hb => ?_, q⟩
  have e : b = s1.heap.objs.size := by simpa using hb
  subst e
  exact I1.fpOk (Nat.le_refl _) (I1.hok.fresh (Nat.le_refl _))
theorem pi_tup {l : Expr} {tl : TE} (hl : PE X l tl) : PI X tg l (iTup X.K tl) := by
  intro pins s σ H R I h
  refine thn (hl pins s σ H _ I h) fun v s1 ⟨x, H1, I1, r1, q1⟩ => ?_
  obtain ⟨a, e, ⟨xs, hq⟩, q⟩ := q1
  subst e
  cases r1
  obtain ⟨its, rv, p, hz⟩ := I1.tuple hq
  refine wpAny_pyIter_tuple (show s1.heap.IsTuple a its.toArray from p) ?_
  refine ⟨s1.heap.objs.size, [s1.heap.objs.size], _, _, H1, rfl, I1.kept (t' := s1.toks) fun b o e => Heap.get?_push_of_some _ e, turn_tuple a _, ⟨_, Heap.get?_push_size _ rfl, rfl, rfl⟩, fun b hb => ?_, q⟩
  have e : b = s1.heap.objs.size := by simpa using hb
  subst e
  exact I1.fpOk (Nat.le_refl _) (I1.hok.fresh (Nat.le_refl _))
theorem range_it {pins : List (Addr × Obj)} {σ : St} {H : Hp} {s : Shared} {R : It → Hp → Prop} {E : Value → Shared → Prop} {lo hi : Int} {t u v : Tok} {tk : Nat} (I : Inv X pins σ H s) (h1 : -(2 ^ 62) ≤ lo) (h2 : lo < 2 ^ 62) (h3 : -(2 ^ 62) ≤ hi) (h4 : hi < 2 ^ 62)
    (q : R (Itr lo (hi - lo).toNat) H) : wpAny (model X.prog X.w) X.A (pyIter (.ref s.heap.objs.size)) (PIE X pins σ tg R) E { s with heap := s.heap.push { cls := .type "range", data := .fields #[.int lo t, .int hi u, .int 1 v] }, toks := tk } := by
  refine wpAny_pyIter_range (IsRange.new ..) (small_one h1 h2 h3 h4) ?_
  have I1 : Inv X pins σ H { s with heap := s.heap.push { cls := .type "range", data := .fields #[.int lo t, .int hi u, .int 1 v] }, toks := tk } := I.kept fun b o e => Heap.get?_push_of_some _ e
  refine ⟨(s.heap.push { cls := .type "range", data := .fields #[.int lo t, .int hi u, .int 1 v] }).objs.size, [(s.heap.push { cls := .type "range", data := .fields #[.int lo t, .int hi u, .int 1 v] }).objs.size], _, _, H, rfl,
    I1.kept (t' := tk) fun b o e => Heap.get?_push_of_some _ e, turn_range _ lo (hi - lo).toNat, ?_, fun b hb => ?_, q⟩
  · have e1 : lo + ((0 : Nat) : Int) * 1 = lo := by simp
    have e2 : (((hi - lo).toNat : Nat) : Int) - ((0 : Nat) : Int) = Builtin.Range.rangeSize lo hi 1 := by rw [rangeSize_one]; split <;> omega
    show IsRangeIter _ _ (lo + ((0 : Nat) : Int) * 1) ((((hi - lo).toNat : Nat) : Int) - ((0 : Nat) : Int)) 1
    rw [e1, e2]
    exact Heap.get?_push_size _ rfl
  · have e : b = (s.heap.push { cls := .type "range", data := .fields #[.int lo t, .int hi u, .int 1 v] }).objs.size := by simpa using hb
    subst e
    exact I1.fpOk (Nat.le_refl _) (I1.hok.fresh (Nat.le_refl _))
def iRng1 (ta : TA) : TI := fun σ H R => ta σ H fun vs H1 => ∃ j : Int, vs = [.int j] ∧ -(2 ^ 62) ≤ j ∧ j < 2 ^ 62 ∧ R (Itr 0 j.toNat) H1
theorem pi_range1 {a : Expr} {ta : TA} {p pos : Pos} (hg : Gl X "range") (hm : X.mg "range" = none) (ha : PA X [a] ta) (hs : starEach [a] X.env = [(false, eval a X.env)] := by rfl) : PI X tg (.Call (.Name "range" p) [a] [] pos) (iRng1 ta) := by
  intro pins s σ H R I h
  refine Call_ (ld_blt I hg hm boot_range (PyProof.Rows.callWith_type1 (thn (ha pos pins s σ H _ I h) fun us s1 ⟨vs, H1, I1, r1, q1⟩ => ?_) hs rfl))
  obtain ⟨j, e, q1, q2, q⟩ := q1
  subst e
  cases r1 with
  | cons r rr =>
    cases rr
    obtain ⟨t, rfl⟩ := r
    exact call_range_1 (range_it I1 (by omega) (by omega) q1 q2 (by simpa using q))
def tFor (wi : TI) (g : TG) (tb : TS) : TS := fun D σ H => wi σ H fun J H1 => ∃ W : Nat → Nat → St → Hp → Prop, (∃ m, W 0 m σ H1) ∧ ∀ i m σ H, W i m σ H →
  (J.stop i H ∧ D.nx σ H) ∨ (J.go i H ∧ ∃ N : St → Hp → Prop, (∀ σ' H', N σ' H' → ∃ m', m' < m ∧ W (i + 1) m' σ' H') ∧ ∀ x H', J.yld i H x H' → g x σ H' fun σ2 H2 => tb { D with nx := N, ct := N, bk := D.nx } σ2 H2)
def pinsAt (fp : List Addr) (h : Heap) : List (Addr × Obj) := fp.filterMap fun b => (h.get? b).map fun o => (b, o)
theorem mem_pinsAt {fp : List Addr} {h : Heap} {b : Addr} {o : Obj} (hb : b ∈ fp) (e : h.get? b = some o) : (b, o) ∈ pinsAt fp h := List.mem_filterMap.mpr ⟨b, hb, by rw [e]; rfl⟩
theorem of_pinsAt {fp : List Addr} {h : Heap} {p : Addr × Obj} (hp : p ∈ pinsAt fp h) : p.1 ∈ fp ∧ h.get? p.1 = some p.2 := by
  obtain ⟨b, hb, e⟩ := List.mem_filterMap.mp hp
  cases q : h.get? b with
  | none => rw [q] at e; cases e
  | some o =>
    rw [q] at e
    have e' : (b, o) = p := Option.some.inj e
    subst e'
    exact ⟨hb, q⟩
theorem Inv.pinned {pins : List (Addr × Obj)} {σ : St} {H : Hp} {s : Shared} {fp : List Addr} (I : Inv X pins σ H s) (hf : ∀ b ∈ fp, FpOk X pins H b) (ho : ∀ b ∈ fp, ∃ o, s.heap.get? b = some o ∧ ∀ v, o.data ≠ .cell v) : Inv X (pins ++ pinsAt fp s.heap) σ H s :=
  I.pins_of fun p hp => (List.mem_append.mp hp).elim (fun z => I.pin p (List.mem_append_right _ z)) fun z => by
    obtain ⟨hb, e⟩ := of_pinsAt z
    obtain ⟨f0, f1, f2, _⟩ := hf p.1 hb
    obtain ⟨o, e', d⟩ := ho p.1 hb
    rw [e] at e'; cases e'
    exact ⟨e, f0, f1, f2, d⟩
theorem Inv.unpinned {pins pl : List (Addr × Obj)} {σ : St} {H : Hp} {s : Shared} (I : Inv X (pins ++ pl) σ H s) : Inv X pins σ H s := I.pins_of fun p hp => I.pin p (List.mem_append_right _ (List.mem_append_left _ hp))
theorem ps_for {iter : Expr} {body : List Stmt} {wi : TI} {g : TG} {tb : TS} {pos : Pos} (hp : PassesOwn (model X.prog X.w) X.A X.env X.xe) (hc : X.calm = true) (hi : PI X tg iter wi) (hg : PG X tg g) (hb : PSs X body tb)
    (hs : ∀ x, foldedSetIterable iter X.env x = pure x := by intro _; rfl) : PS X (.For tg iter body [] pos) (tFor wi g tb) := by
  intro pins s σ H D I h
  refine wpAny_For (thn (hi pins s σ H _ I h) fun v s1 h1 => thn h1 fun itv s2 h2 => ?_) hs
  obtain ⟨it, fp, tn, J, H2, e, I2, T, st2, f2, W, ⟨m0, w0⟩, turn⟩ := h2
  subst e
  have stat : ∀ {H' : Hp}, (∀ b ∈ fp, H' b = none) → ∀ b ∈ fp, FpOk X pins H' b := fun hn b hb => ⟨hn b hb, (f2 b hb).2⟩
  refine codeAny_forLoop_any (fun n s' => ∃ i σ' H', Inv X pins σ' H' s' ∧ tn i s'.heap ∧ (∀ b ∈ fp, H' b = none) ∧ W i n σ' H') ?_ m0 ⟨0, σ, H2, I2, st2, fun b hb => (f2 b hb).1, w0⟩
  rintro n s3 ⟨i, σ3, H3, I3, st3, fr3, w3⟩
  rcases turn i n σ3 H3 w3 with ⟨stop, qn⟩ | ⟨go, N, hN, step⟩
  · refine wpAny_passesOwn hp (thn (T.done X rfl rfl rfl hc i pins s3 σ3 H3 X.xe I3 (stat fr3) st3 stop) fun r s4 ⟨hr, I4⟩ => ?_)
    subst hr
    exact wpAny_execs_nil ⟨σ3, H3, I4, qn⟩
  · refine wpAny_passesOwn hp (thn (T.item X rfl rfl rfl hc i pins s3 σ3 H3 X.xe I3 (stat fr3) st3 go) fun r s4 ⟨u, hr, h4⟩ => ?_)
    subst hr
    refine wpAny_passesOwn hp (thn h4 fun _ s5 ⟨x, H5, I5, r5, y5, st5, fr5⟩ => ?_)
    have I5' := I5.pinned (stat fr5) (T.obj _ _ st5)
    refine wpAny_passesOwn hp (thn (hg _ s5 σ3 H5 x u _ I5' r5 (step x H5 y5)) fun _ s6 ⟨σ6, H6, I6, q6⟩ => ?_)
    refine wpAny_passesOwn hp (thn (hb _ s6 σ6 H6 _ I6 q6) fun f s7 q7 => ?_)
    have again : ∀ {σ7 : St} {H7 : Hp}, Inv X (pins ++ pinsAt fp s5.heap) σ7 H7 s7 → N σ7 H7 → ∃ m, m < n ∧ ∃ i σ' H', Inv X pins σ' H' s7 ∧ tn i s7.heap ∧ (∀ b ∈ fp, H' b = none) ∧ W i m σ' H' := fun {σ7 H7} I7 n7 => by
      obtain ⟨m', hm, w7⟩ := hN σ7 H7 n7
      refine ⟨m', hm, i + 1, σ7, H7, I7.unpinned, T.keep _ _ _ st5 fun b hb o e => (I7.pin (b, o) (List.mem_append_right _ (List.mem_append_right _ (mem_pinsAt hb e)))).1, fun b hb => ?_, w7⟩
      obtain ⟨o, e, d⟩ := T.obj _ _ st5 b hb
      exact (I7.pin (b, o) (List.mem_append_right _ (List.mem_append_right _ (mem_pinsAt hb e)))).2.1
    cases f with
    | next => obtain ⟨σ7, H7, I7, n7⟩ := q7; exact again I7 n7
    | cont => obtain ⟨σ7, H7, I7, n7⟩ := q7; exact again I7 n7
    | brk => obtain ⟨σ7, H7, I7, q7⟩ := q7; exact ⟨σ7, H7, I7.unpinned, q7⟩
    | ret v => obtain ⟨x7, σ7, H7, I7, r7, q7⟩ := q7; exact ⟨x7, σ7, H7, I7.unpinned, r7, q7⟩
end
theorem for_list {K : PySem.W.Frag} {a : Addr} {xs : List V} {g : TG} {tb : TS} {D : Ends} {σ : St} {H : Hp} (Pv : Nat → St → Hp → Prop) (h0 : Pv 0 σ H) (hl : ∀ i σ H, i ≤ xs.length → Pv i σ H → SqL K H a xs)
    (hs : ∀ i x σ H, xs[i]? = some x → Pv i σ H → g x σ H fun σ2 H2 => tb { D with nx := Pv (i + 1), ct := Pv (i + 1), bk := D.nx } σ2 H2) (hd : ∀ σ H, Pv xs.length σ H → D.nx σ H) :
    ∃ W : Nat → Nat → St → Hp → Prop, (∃ m, W 0 m σ H) ∧ ∀ i m σ H, W i m σ H →
      ((Itl K a).stop i H ∧ D.nx σ H) ∨ ((Itl K a).go i H ∧ ∃ N : St → Hp → Prop, (∀ σ' H', N σ' H' → ∃ m', m' < m ∧ W (i + 1) m' σ' H') ∧ ∀ x H', (Itl K a).yld i H x H' → g x σ H' fun σ2 H2 => tb { D with nx := N, ct := N, bk := D.nx } σ2 H2) := by
  refine ⟨fun i m σ H => m = xs.length - i ∧ i ≤ xs.length ∧ Pv i σ H, ⟨xs.length, by simp, Nat.zero_le _, h0⟩, ?_⟩
  rintro i m σ H ⟨rfl, hi, p⟩
  have q := hl i σ H hi p
  by_cases hlt : i < xs.length
  · refine .inr ⟨⟨xs, xs[i], q, by simp [hlt]⟩, Pv (i + 1), fun σ' H' p' => ⟨xs.length - (i + 1), by omega, rfl, hlt, p'⟩, fun x H' y => ?_⟩
    obtain ⟨e, y⟩ := y
    subst e
    exact hs i x σ _ (y xs q) p
  · have e : i = xs.length := by omega
    subst e
    exact .inl ⟨⟨xs, q, Nat.le_refl _⟩, hd σ H p⟩
theorem for_range {lo : Int} {n : Nat} {g : TG} {tb : TS} {D : Ends} {σ : St} {H : Hp} (Pv : Nat → St → Hp → Prop) (h0 : Pv 0 σ H)
    (hs : ∀ i σ H, i < n → Pv i σ H → g (.int (lo + i)) σ H fun σ2 H2 => tb { D with nx := Pv (i + 1), ct := Pv (i + 1), bk := D.nx } σ2 H2) (hd : ∀ σ H, Pv n σ H → D.nx σ H) :
    ∃ W : Nat → Nat → St → Hp → Prop, (∃ m, W 0 m σ H) ∧ ∀ i m σ H, W i m σ H →
      ((Itr lo n).stop i H ∧ D.nx σ H) ∨ ((Itr lo n).go i H ∧ ∃ N : St → Hp → Prop, (∀ σ' H', N σ' H' → ∃ m', m' < m ∧ W (i + 1) m' σ' H') ∧ ∀ x H', (Itr lo n).yld i H x H' → g x σ H' fun σ2 H2 => tb { D with nx := N, ct := N, bk := D.nx } σ2 H2) := by
  refine ⟨fun i m σ H => m = n - i ∧ i ≤ n ∧ Pv i σ H, ⟨n, by simp, Nat.zero_le _, h0⟩, ?_⟩
  rintro i m σ H ⟨rfl, hi, p⟩
  by_cases hlt : i < n
  · refine .inr ⟨hlt, Pv (i + 1), fun σ' H' p' => ⟨n - (i + 1), by omega, rfl, hlt, p'⟩, fun x H' y => ?_⟩
    obtain ⟨e, y⟩ := y
    subst e y
    exact hs i σ _ hlt p
  · have e : i = n := by omega
    subst e
    exact .inl ⟨Nat.le_refl _, hd σ H p⟩
end L2
namespace L2
open PySem PySem.Spec PyProof.Rows
abbrev R2 := V → V → Hp → VK → Prop
def OpR (X : Cx) (f : Value → Value → Sem Value) (r : R2) : Prop :=
  ∀ (pins : List (Addr × Obj)) (s : Shared) (σ : St) (H : Hp) (x y : V) (v u : Value) (Q : VK), Inv X pins σ H s → RelV x v → RelV y u → r x y H Q →
    wpAny (model X.prog X.w) X.A (f v u) (EP X pins σ Q) X.xe s
def CallR (X : Cx) (f : Value) (r : List V → Hp → VK → Prop) : Prop :=
  ∀ (pins : List (Addr × Obj)) (s : Shared) (σ : St) (H : Hp) (xs : List V) (us : List Value) (Q : VK), Inv X pins σ H s → Vals xs us → r xs H Q →
    wpAny (model X.prog X.w) X.A (call f us) (EP X pins σ Q) X.xe s
def tOp (r : R2) (ta tb : TE) : TE := fun σ H Q => ta σ H fun x H1 => tb σ H1 fun y H2 => r x y H2 Q
def rI (C : Int → Int → Prop) (g : Int → Int → V) : R2 := fun x y H Q => ∃ i j, x = .int i ∧ y = .int j ∧ C i j ∧ Q (g i j) H
def rI0 (g : Int → Int → V) : R2 := fun x y H Q => ∃ i j, x = .int i ∧ y = .int j ∧ Q (g i j) H
section
variable {X : Cx} {a b c : Expr} {ta tb tc : TE} {pos : Pos}
theorem binT (ha : PE X a ta) (hb : PE X b tb) {pins : List (Addr × Obj)} {s : Shared} {σ : St} {H : Hp} {R : V → V → Hp → Prop} (I : Inv X pins σ H s)
    (h : ta σ H fun x H1 => tb σ H1 fun y H2 => R x y H2) {Q : Value → Shared → Prop} {f : Value → Value → Sem Value}
    (hf : ∀ v u s2 x y H2, Inv X pins σ H2 s2 → RelV x v → RelV y u → R x y H2 → wpAny (model X.prog X.w) X.A (f v u) Q X.xe s2) :
    wpAny (model X.prog X.w) X.A (eval a X.env) (fun v s₁ => wpAny (model X.prog X.w) X.A (eval b X.env) (fun u s₂ => wpAny (model X.prog X.w) X.A (f v u) Q X.xe s₂) X.xe s₁) X.xe s := by
  refine thn (ha pins s σ H _ I h) fun v s1 ⟨x, H1, I1, r1, q1⟩ => ?_
  refine thn (hb pins s1 σ H1 _ I1 q1) fun u s2 ⟨y, H2, I2, r2, q2⟩ => ?_
  exact hf v u s2 x y H2 I2 r1 r2 q2
theorem pe_op {op : Operator} {r : R2} (ho : OpR X (binaryOp op) r) (ha : PE X a ta) (hb : PE X b tb) : PE X (.BinOp a op b pos) (tOp r ta tb) := by
  intro pins s σ H Q I h
  exact wpAny_BinOp (binT ha hb I h fun v u s2 x y H2 I2 rx ry q => ho pins s2 σ H2 x y v u Q I2 rx ry q)
theorem opI {f : Value → Value → Sem Value} {C : Int → Int → Prop} {g : Int → Int → Int}
    (rule : ∀ (i j : Int) (t u : Tok) (s : Shared) (Q : Value → Shared → Prop) (E : Value → Shared → Prop), C i j → Q (.int (g i j) s.toks) { s with toks := s.toks + 1 } → wpAny (model X.prog X.w) X.A (f (.int i t) (.int j u)) Q E s) :
    OpR X f (rI C fun i j => .int (g i j)) := by
  intro pins s σ H x y v u Q I rx ry h
  obtain ⟨i, j, rfl, rfl, hc, q⟩ := h
  obtain ⟨t, rfl⟩ := rx
  obtain ⟨t', rfl⟩ := ry
  exact rule i j t t' s _ _ hc ⟨.int (g i j), H, I.tok _, ⟨_, rfl⟩, q⟩
theorem opI0 {f : Value → Value → Sem Value} {g : Int → Int → Int}
    (rule : ∀ (i j : Int) (t u : Tok) (s : Shared) (Q : Value → Shared → Prop) (E : Value → Shared → Prop), Q (.int (g i j) s.toks) { s with toks := s.toks + 1 } → wpAny (model X.prog X.w) X.A (f (.int i t) (.int j u)) Q E s) :
    OpR X f (rI0 fun i j => .int (g i j)) := by
  intro pins s σ H x y v u Q I rx ry h
  obtain ⟨i, j, rfl, rfl, q⟩ := h
  obtain ⟨t, rfl⟩ := rx
  obtain ⟨t', rfl⟩ := ry
  exact rule i j t t' s _ _ ⟨.int (g i j), H, I.tok _, ⟨_, rfl⟩, q⟩
theorem opB0 {f : Value → Value → Sem Value} {g : Int → Int → Bool}
    (rule : ∀ (i j : Int) (t u : Tok) (s : Shared) (Q : Value → Shared → Prop) (E : Value → Shared → Prop), Q (.bool (g i j)) s → wpAny (model X.prog X.w) X.A (f (.int i t) (.int j u)) Q E s) :
    OpR X f (rI0 fun i j => .bl (g i j)) := by
  intro pins s σ H x y v u Q I rx ry h
  obtain ⟨i, j, rfl, rfl, q⟩ := h
  obtain ⟨t, rfl⟩ := rx
  obtain ⟨t', rfl⟩ := ry
  exact rule i j t t' s _ _ ⟨.bl (g i j), H, I, rfl, q⟩
def CDiv (i j : Int) : Prop := 0 < j ∧ j < 1073741824
def CPow (i j : Int) : Prop := 0 ≤ j ∧ j ≤ 1000000 ∧ i.natAbs < 2 ^ 64
def CMul (i j : Int) : Prop := (-(2 ^ 64) < i ∧ i < 2 ^ 64) ∨ (-(2 ^ 64) < j ∧ j < 2 ^ 64)
theorem CMul.ok {i j : Int} (h : CMul i j) : IntMulOk i j := by
  rcases h with ⟨h1, h2⟩ | ⟨h1, h2⟩
  · exact .of_left (intBits_le_64 h1 h2)
  · exact .of_right (intBits_le_64 h1 h2)
theorem two_pow_nn (k : Nat) : (0 : Int) ≤ 2 ^ k := by
  rw [two_pow_cast]
  exact Int.natCast_nonneg _
theorem op_add : OpR X (binaryOp .Add) (rI0 fun i j => .int (i + j)) := opI0 fun _ _ _ _ _ _ _ q => add_int q
theorem op_sub : OpR X (binaryOp .Sub) (rI0 fun i j => .int (i - j)) := opI0 fun _ _ _ _ _ _ _ q => sub_int q
theorem op_mul : OpR X (binaryOp .Mult) (rI CMul fun i j => .int (i * j)) := opI fun _ _ _ _ _ _ _ hc q => mul_int q hc.ok
theorem op_fdiv : OpR X (binaryOp .FloorDiv) (rI CDiv fun i j => .int (i / j)) := opI fun i j _ _ _ _ _ hc q => by
  have h1 : (0 : Int) < j := hc.1
  have h2 : j < 1073741824 := hc.2
  exact floordiv_int (by omega) (by rw [Int.fdiv_eq_ediv_of_nonneg i (by omega)]; exact q) (.inl (PyProof.noPylong_small (by omega)))
theorem op_mod : OpR X (binaryOp .Mod) (rI (fun _ j => 0 < j) fun i j => .int (i % j)) := opI fun i j _ _ _ _ _ hc q => by
  have h1 : (0 : Int) < j := hc
  exact mod_int' (by omega) (by rw [Int.fmod_eq_emod_of_nonneg i (by omega)]; exact q)
theorem op_pow : OpR X (binaryOp .Pow) (rI CPow fun i j => .int (i ^ j.toNat)) := opI fun _ _ _ _ _ _ _ hc q => pow_int_small hc.1 hc.2.1 hc.2.2 q
theorem op_shl : OpR X (binaryOp .LShift) (rI CPow fun i j => .int (i * 2 ^ j.toNat)) := opI fun _ _ _ _ _ _ _ hc q => lshift_int_small hc.1 hc.2.1 hc.2.2 q
theorem op_shr : OpR X (binaryOp .RShift) (rI (fun _ j => 0 ≤ j) fun i j => .int (i / 2 ^ j.toNat)) := opI fun i j _ _ _ _ _ hc q =>
  rshift_int hc (by rw [Int.fdiv_eq_ediv_of_nonneg i (two_pow_nn _)]; exact q)
theorem op_and : OpR X (binaryOp .BitAnd) (rI0 fun i j => .int (Builtin.bitAnd i j)) := opI0 fun _ _ _ _ _ _ _ q => and_int q
theorem op_xor : OpR X (binaryOp .BitXor) (rI0 fun i j => .int (Builtin.bitXor i j)) := opI0 fun _ _ _ _ _ _ _ q => xor_int q
end
def scal : V → V → Bool
  | .non, .non => true | .non, .int _ => true | .int _, .non => true | .non, .bl _ => true | .bl _, .non => true | .non, .str _ => true | .str _, .non => true
  | .int _, .int _ => true | .bl _, .bl _ => true | .str _, .str _ => true | .byt _, .byt _ => true
  | .int _, .str _ => true | .str _, .int _ => true | .bl _, .str _ => true | .str _, .bl _ => true
  | _, _ => false
def rEq : R2 := fun x y H Q => scal x y = true ∧ Q (.bl (decide (x = y))) H
def rNe : R2 := fun x y H Q => scal x y = true ∧ Q (.bl (!decide (x = y))) H
theorem dec_int {i j : Int} : decide (V.int i = V.int j) = (i == j) := by
  rw [Bool.eq_iff_iff]
  simp
theorem dec_bl {i j : Bool} : decide (V.bl i = V.bl j) = (i == j) := by
  rw [Bool.eq_iff_iff]
  simp
theorem dec_str {i j : Str} : decide (V.str i = V.str j) = (i == j) := by
  rw [Bool.eq_iff_iff]
  simp
theorem dec_byt {i j : Array UInt8} : decide (V.byt i = V.byt j) = (i.toList == j.toList) := by
  rw [Bool.eq_iff_iff]
  cases i
  cases j
  simp
section
variable {X : Cx} {a b c : Expr} {ta tb tc : TE} {pos : Pos}
theorem fin_bl {pins : List (Addr × Obj)} {σ : St} {H : Hp} {s : Shared} {Q : VK} {k k' : Bool} (I : Inv X pins σ H s) (q : Q (.bl k) H) (e : k = k') : EP X pins σ Q (.bool k') s := by
  subst e
  exact ⟨.bl k, H, I, rfl, q⟩
theorem op_eq : OpR X (compareOp .Eq) rEq := by
  intro pins s σ H x y v u Q I rx ry h
  obtain ⟨hs, q⟩ := h
  cases x with
  | non =>
    cases rx
    cases y with
    | non => cases ry; exact PySem.EqNone.eq_none_none (fin_bl I q (by simp))
    | bl j => cases ry; exact PySem.EqNone.eq_none_bool (fin_bl I q (by simp))
    | int j => obtain ⟨t', rfl⟩ := ry; exact PySem.EqNone.eq_none_int (fin_bl I q (by simp))
    | str j => obtain ⟨t', rfl⟩ := ry; exact PySem.EqNone.eq_none_str (fin_bl I q (by simp))
    | _ => exact absurd (show false = true from hs) Bool.false_ne_true
  | bl i =>
    cases rx
    cases y with
    | non => cases ry; exact PySem.EqNone.eq_bool_none (fin_bl I q (by simp))
    | bl j => cases ry; exact eq_bool (fin_bl I q dec_bl)
    | str j => obtain ⟨t', rfl⟩ := ry; exact PySem.EqMixed.eq_bool_str (fin_bl I q (by simp))
    | _ => exact absurd (show false = true from hs) Bool.false_ne_true
  | int i =>
    obtain ⟨t, rfl⟩ := rx
    cases y with
    | non => cases ry; exact PySem.EqNone.eq_int_none (fin_bl I q (by simp))
    | int j => obtain ⟨t', rfl⟩ := ry; exact eq_int (fin_bl I q dec_int)
    | str j => obtain ⟨t', rfl⟩ := ry; exact PySem.EqMixed.eq_int_str (fin_bl I q (by simp))
    | _ => exact absurd (show false = true from hs) Bool.false_ne_true
  | str i =>
    obtain ⟨t, rfl⟩ := rx
    cases y with
    | non => cases ry; exact PySem.EqNone.eq_str_none (fin_bl I q (by simp))
    | bl j => cases ry; exact PySem.EqMixed.eq_str_bool (fin_bl I q (by simp))
    | int j => obtain ⟨t', rfl⟩ := ry; exact PySem.EqMixed.eq_str_int (fin_bl I q (by simp))
    | str j => obtain ⟨t', rfl⟩ := ry; exact eq_str (fin_bl I q dec_str)
    | _ => exact absurd (show false = true from hs) Bool.false_ne_true
  | byt i =>
    obtain ⟨t, rfl⟩ := rx
    cases y with
    | byt j => obtain ⟨t', rfl⟩ := ry; exact PySem.W.eq_bytes (fin_bl I q dec_byt)
    | _ => exact absurd (show false = true from hs) Bool.false_ne_true
  | _ => cases y <;> exact absurd (show false = true from hs) Bool.false_ne_true
theorem op_ne : OpR X (compareOp .NotEq) rNe := by
  intro pins s σ H x y v u Q I rx ry h
  obtain ⟨hs, q⟩ := h
  cases x with
  | non =>
    cases rx
    cases y with
    | non => cases ry; exact PySem.EqNone.ne_none_none (fin_bl I q (by simp))
    | bl j => cases ry; exact PySem.EqNone.ne_none_bool (fin_bl I q (by simp))
    | int j => obtain ⟨t', rfl⟩ := ry; exact PySem.EqNone.ne_none_int (fin_bl I q (by simp))
    | str j => obtain ⟨t', rfl⟩ := ry; exact PySem.EqNone.ne_none_str (fin_bl I q (by simp))
    | _ => exact absurd (show false = true from hs) Bool.false_ne_true
  | bl i =>
    cases rx
    cases y with
    | non => cases ry; exact PySem.EqNone.ne_bool_none (fin_bl I q (by simp))
    | bl j => cases ry; exact ne_bool (fin_bl I q (congrArg not dec_bl))
    | str j => obtain ⟨t', rfl⟩ := ry; exact PySem.EqMixed.ne_bool_str (fin_bl I q (by simp))
    | _ => exact absurd (show false = true from hs) Bool.false_ne_true
  | int i =>
    obtain ⟨t, rfl⟩ := rx
    cases y with
    | non => cases ry; exact PySem.EqNone.ne_int_none (fin_bl I q (by simp))
    | int j => obtain ⟨t', rfl⟩ := ry; exact ne_int (fin_bl I q (congrArg not dec_int))
    | str j => obtain ⟨t', rfl⟩ := ry; exact PySem.EqMixed.ne_int_str (fin_bl I q (by simp))
    | _ => exact absurd (show false = true from hs) Bool.false_ne_true
  | str i =>
    obtain ⟨t, rfl⟩ := rx
    cases y with
    | non => cases ry; exact PySem.EqNone.ne_str_none (fin_bl I q (by simp))
    | bl j => cases ry; exact PySem.EqMixed.ne_str_bool (fin_bl I q (by simp))
    | int j => obtain ⟨t', rfl⟩ := ry; exact PySem.EqMixed.ne_str_int (fin_bl I q (by simp))
    | str j => obtain ⟨t', rfl⟩ := ry; exact ne_str (fin_bl I q (congrArg not dec_str))
    | _ => exact absurd (show false = true from hs) Bool.false_ne_true
  | byt i =>
    obtain ⟨t, rfl⟩ := rx
    cases y with
    | byt j => obtain ⟨t', rfl⟩ := ry; exact PySem.W.ne_bytes (fin_bl I q (congrArg not dec_byt))
    | _ => exact absurd (show false = true from hs) Bool.false_ne_true
  | _ => cases y <;> exact absurd (show false = true from hs) Bool.false_ne_true
theorem op_lt : OpR X (compareOp .Lt) (rI0 fun i j => .bl (decide (i < j))) := opB0 fun _ _ _ _ _ _ _ q => lt_int q
theorem op_ge : OpR X (compareOp .GtE) (rI0 fun i j => .bl (decide (j ≤ i))) := opB0 fun _ _ _ _ _ _ _ q => ge_int q
theorem OpR.or {f : Value → Value → Sem Value} {r r' : R2} (h : OpR X f r) (h' : OpR X f r') : OpR X f (fun x y H Q => r x y H Q ∨ r' x y H Q) := by
  intro pins s σ H x y v u Q I rx ry q
  rcases q with q | q
  · exact h pins s σ H x y v u Q I rx ry q
  · exact h' pins s σ H x y v u Q I rx ry q
theorem nomark (b : Expr) {op : CmpOp} (h : op ≠ .In := by decide) (h2 : op ≠ .NotIn := by decide) : behindInMarks op b = false := by
  have e1 : (op == CmpOp.In) = false := by cases op <;> first | rfl | exact absurd rfl h
  have e2 : (op == CmpOp.NotIn) = false := by cases op <;> first | rfl | exact absurd rfl h2
  cases b <;> simp [behindInMarks, e1, e2]
theorem pe_cmpR {op : CmpOp} {r : R2} (ho : OpR X (compareOp op) r) (ha : PE X a ta) (hb : PE X b tb) (hm : behindInMarks op b = false) : PE X (.Compare a [op] [b] pos) (tOp r ta tb) := by
  intro pins s σ H Q I h
  exact wpAny_Compare1 (binT ha hb I h fun v u s2 x y H2 I2 rx ry q => ho pins s2 σ H2 x y v u Q I2 rx ry q) hm
def tTest (t : TE) : TT := fun σ H Q => t σ H fun x H' => ∃ k, x = .bl k ∧ Q k H'
theorem pt_cmpR {op : CmpOp} {r : R2} (ho : OpR X (compareOp op) r) (ha : PE X a ta) (hb : PE X b tb) (hm : behindInMarks op b = false) : PT X (.Compare a [op] [b] pos) (tTest (tOp r ta tb)) := by
  intro pins s σ H Q I h
  refine wpAny_isTrue_Compare1 (thn (ha pins s σ H _ I h) fun v s1 ⟨x, H1, I1, r1, q1⟩ => thn (hb pins s1 σ H1 _ I1 q1) fun u s2 ⟨y, H2, I2, r2, q2⟩ =>
    thn (ho pins s2 σ H2 x y v u _ I2 r1 r2 q2) fun c s3 ⟨z, H3, I3, r3, k, e, q3⟩ => ?_) hm
  subst e
  cases r3
  exact wpAny_truthy_bool ⟨H3, I3, q3⟩
theorem line63 : (sizeLine : Nat) < 2 ^ 63 := by rw [sizeLine_eq]; decide
theorem op_add_str : OpR X (binaryOp .Add) (fun x y H Q => ∃ i j, x = .str i ∧ y = .str j ∧ i.length + j.length ≤ sizeLine ∧ Q (.str (i ++ j)) H) := by
  intro pins s σ H x y v u Q I rx ry h
  obtain ⟨i, j, rfl, rfl, hz, q⟩ := h
  obtain ⟨t, rfl⟩ := rx
  obtain ⟨t', rfl⟩ := ry
  exact add_str (fun t' tk => ⟨.str (i ++ j), H, I.tok _, ⟨_, rfl⟩, q⟩) hz
theorem vals1 {x : V} {us : List Value} (r : Vals [x] us) : ∃ u, us = [u] ∧ RelV x u := by
  cases r with
  | cons r1 r2 => cases r2; exact ⟨_, rfl, r1⟩
theorem vals2 {x y : V} {us : List Value} (r : Vals [x, y] us) : ∃ u w', us = [u, w'] ∧ RelV x u ∧ RelV y w' := by
  cases r with
  | cons r1 r2 =>
    cases r2 with
    | cons r3 r4 => cases r4; exact ⟨_, _, rfl, r1, r3⟩
theorem call_abs : CallR X (.builtin "abs") (fun xs H Q => ∃ i, xs = [.int i] ∧ Q (.int (if i < 0 then -i else i)) H) := by
  intro pins s σ H xs us Q I r h
  obtain ⟨i, rfl, q⟩ := h
  obtain ⟨u, rfl, t, rfl⟩ := vals1 r
  exact call_abs_int fun u tk => ⟨.int (if i < 0 then -i else i), H, I.tok _, ⟨_, rfl⟩, q⟩
theorem call_min2 (hc : X.calm = true) : CallR X (.builtin "min") (fun xs H Q => ∃ i j, xs = [.int i, .int j] ∧ Q (.int (if j < i then j else i)) H) := by
  intro pins s σ H xs us Q I r h
  obtain ⟨i, j, rfl, q⟩ := h
  obtain ⟨u, w', rfl, ⟨t, rfl⟩, ⟨t', rfl⟩⟩ := vals2 r
  refine min_two_ints (I.ok.hd hc) fun h' tk k => ⟨_, H, I.kept k, ?_, q⟩
  by_cases hj : j < i
  · rw [if_pos hj, if_pos hj]; exact ⟨_, rfl⟩
  · rw [if_neg hj, if_neg hj]; exact ⟨_, rfl⟩
theorem call_int1 : CallR X (.type "int") (fun xs H Q => (∃ i, xs = [.int i] ∧ Q (.int i) H) ∨ ∃ k, xs = [.bl k] ∧ Q (.int (if k then 1 else 0)) H) := by
  intro pins s σ H xs us Q I r h
  rcases h with ⟨i, rfl, q⟩ | ⟨k, rfl, q⟩
  · obtain ⟨u, rfl, t, rfl⟩ := vals1 r
    exact call_int_int ⟨.int i, H, I, ⟨_, rfl⟩, q⟩
  · obtain ⟨u, rfl, r1⟩ := vals1 r
    cases r1
    exact call_int_bool ⟨.int (if k then 1 else 0), H, I.tok _, ⟨_, rfl⟩, q⟩
end
end L2
namespace L2
open PySem PySem.Spec PyProof.Rows
structure ObjM (h : Heap) (x dx C : Addr) (mA : Str → Option Value) : Prop where
  obj : h.get? x = some (PySem.W.instObj C dx)
  ns : h.Ns1 dx mA
  ne : dx ≠ x
theorem lookIn_ns {h : Heap} {dx : Addr} {mA : Str → Option Value} (n : h.Ns1 dx mA) : ∃ od, h.get? dx = some od ∧ ∀ name, PySem.W.lookIn name od = some (mA name) := by
  obtain ⟨o, es, ep, ho, hd, hk, _, hm⟩ := n
  refine ⟨o, ho, fun name => ?_⟩
  have e := hm name
  unfold nsFind findBy at e
  rw [← Array.find?_toList] at e
  unfold PySem.W.lookIn
  rw [hd]
  dsimp only
  split
  · rename_i y q
    rw [q] at e
    exact congrArg some e
  · rename_i q
    rw [q] at e
    have a : es.toList.any (·.refKey) = false := by
      rw [List.any_eq_false]
      intro y hy
      obtain ⟨z, t, hkey⟩ := hk y (Array.mem_toList_iff.mp hy)
      simp [DictEntry.refKey, hkey]
    have a' : ¬ es.toList.any (·.refKey) = true := by rw [a]; exact Bool.false_ne_true
    rw [if_neg a']
    exact congrArg some e
theorem ObjM.look {h : Heap} {x dx C : Addr} {mA : Str → Option Value} (I : ObjM h x dx C mA) : ∃ od, PySem.W.InstAt h x (PySem.W.instObj C dx) C (some od) ∧ ∀ name, PySem.W.lookIn name od = some (mA name) :=
  let ⟨od, ho, hl⟩ := lookIn_ns I.ns
  ⟨od, ⟨I.obj, rfl, rfl, ho⟩, hl⟩
section
variable {prog : Program} {w : World} {A : Around} {E : Value → Shared → Prop} {s : Shared} {K : PySem.W.Frag} {x dx C f : Addr} {mA : Str → Option Value} {name : Str} {v : Value}
end
theorem RelO.none_of {o : Option Value} (r : RelO none o) : o = none := by
  cases o with
  | none => rfl
  | some u => exact (show False from r).elim
section
variable {P : Program} {w : World} {H H' : Hp} {h h' : Heap} {a C dx : Addr} {fs fs' : List (Str × V)}
theorem ins_get (hok : HOk P w H h) (e : H a = some (.ins C dx fs)) : ∃ mA, ObjM h a dx C mA ∧ (∀ f, RelO (fs.lookup f) (mA f)) ∧ PySem.Within mA (fs.map (·.1)) ∧ fs.length ≤ 1000 ∧ H dx = some (.own a) := by
  obtain ⟨d, z, ne, ob, mA, n, r, q⟩ := (show ObjOk P w H h a (.ins C dx fs) from hok a _ e)
  exact ⟨mA, ⟨ob, n, ne⟩, r, q, z, d⟩
end
structure Cls (K : PySem.W.Frag) (C : Addr) : Prop where
  pg : PySem.W.plainGet K C Str.empty = true
  hd : PySem.W.hasDictIn K C = true
  po : PySem.W.plainOver K C = true
  sa : PySem.W.findIn K (.ref C) "__setattr__" = some (some (.builtin "object.__setattr__"))
theorem Cls.get {K : PySem.W.Frag} {C : Addr} (c : Cls K C) (f : Str) : PySem.W.plainGet K C f = true := c.pg
structure Con (K : PySem.W.Frag) (C : Addr) (f : Str) (v : V) (u : Value) : Prop where
  at_ : PySem.W.findIn K (.ref C) f = some (some u)
  rel : RelV v u
  get : PySem.W.specialIn K u "__get__" = some none
  cp : PySem.W.copiedNames.contains f = false
structure Meth (K : PySem.W.Frag) (C : Addr) (m : Str) (f : Addr) : Prop where
  at_ : PySem.W.findIn K (.ref C) m = some (some (.ref f))
  fn : PySem.W.isFn K (.ref f) = true
  kp : PySem.W.keepIn K (.ref f) = true
section
variable {X : Cx} {pins : List (Addr × Obj)} {σ : St} {H : Hp} {s : Shared} {a C dx : Addr} {fs : List (Str × V)} {f : Str} {v : V} {A : Around} {E : Value → Shared → Prop}
theorem Inv.made (I : Inv X pins σ H s) : Inv X pins σ (upd (upd H s.heap.objs.size (.own (s.heap.objs.size + 1))) (s.heap.objs.size + 1) (.ins C s.heap.objs.size []))
    { s with heap := (s.heap.push PySem.W.emptyDict).push (PySem.W.instObj C s.heap.objs.size) } := by
  have e1 : (s.heap.push PySem.W.emptyDict).get? s.heap.objs.size = some PySem.W.emptyDict := Heap.get?_push_size s.heap rfl
  have e2 : ((s.heap.push PySem.W.emptyDict).push (PySem.W.instObj C s.heap.objs.size)).get? (s.heap.objs.size + 1) = some (PySem.W.instObj C s.heap.objs.size) := by
    have := Heap.get?_push_size (s.heap.push PySem.W.emptyDict) (o := PySem.W.instObj C s.heap.objs.size) rfl
    rwa [Heap.size_push] at this
  have e3 : (s.heap.push PySem.W.emptyDict).Ns s.heap.objs.size (fun _ => none) := ⟨PySem.W.emptyDict, #[], _, e1, rfl, (fun e he => absurd he (by simp)), fun _ => rfl⟩
  have I1 := I.laid (a := s.heap.objs.size) (o := .own (s.heap.objs.size + 1)) (h' := s.heap.push PySem.W.emptyDict) (t' := s.toks) (fun b u q => Heap.get?_push_of_some _ q) (Nat.le_refl _) ⟨_, e1⟩
  refine I1.laid (a := s.heap.objs.size + 1) (o := .ins C s.heap.objs.size []) (t' := s.toks) (fun b u q => Heap.get?_push_of_some _ q) (Nat.le_of_eq (Heap.size_push _ _)) ?_
  have ne : s.heap.objs.size ≠ s.heap.objs.size + 1 := Nat.ne_of_lt (Nat.lt_succ_self _)
  refine ⟨by rw [upd_ne ne, upd_same], Nat.zero_le _, ne, e2, fun _ => none, (Heap.Ns1.of_empty e3).at fun o q => Heap.get?_push_of_some _ q, fun _ => True.intro, fun y hy => absurd rfl hy⟩
end
section
variable {X : Cx} {o e value : Expr} {f : Str} {pos pos' tpos : Pos} {ta tv : TE}
end
section
variable {X : Cx} {pins : List (Addr × Obj)} {σ : St} {H : Hp} {s : Shared} {A : Around} {E : Value → Shared → Prop} {Q : Value → Shared → Prop} {c : Value} {b : Bool}
inductive TyOf (K : PySem.W.Frag) (H : Hp) : V → Value → Prop where
  | non : TyOf K H .non (.type "NoneType")
  | bl (x : Bool) : TyOf K H (.bl x) (.type "bool")
  | int (i : Int) : TyOf K H (.int i) (.type "int")
  | str (x : Str) : TyOf K H (.str x) (.type "str")
  | flt (x : UInt64) : TyOf K H (.flt x) (.type "float")
  | lst {a : Addr} {xs : List V} (e : H a = some (.lst xs)) : TyOf K H (.ref a) (.type "list")
  | frz {a : Addr} {o : Obj} {xs : List V} (e : H a = some (.frz o (.lst xs))) : TyOf K H (.ref a) (.type "list")
  | tup {a : Addr} {xs : List V} (e : H a = some (.tup xs)) : TyOf K H (.ref a) (.type "tuple")
  | dK {a : Addr} {kvs : List (Key × V)} (e : H a = some (.dK kvs)) : TyOf K H (.ref a) (.type "dict")
  | dT {a : Addr} {kvs : List (List Key × V)} (e : H a = some (.dT kvs)) : TyOf K H (.ref a) (.type "dict")
  | ins {a C dx : Addr} {fs : List (Str × V)} (e : H a = some (.ins C dx fs)) (cl : Cls K C) (ha : PySem.W.findIn K (.ref C) "__class__" = some (some (.builtin "object.__class__")))
      (hn : PySem.W.specialIn K (.builtin "object.__class__") "__get__" = some (some (.builtin "getset_descriptor.__get__"))) (htk : PySem.W.takesIn K (.builtin "object.__class__") = some true)
      (hm : PySem.W.mroIn K C (.type "object") = some true) : TyOf K H (.ref a) (.ref C)
theorem isinst_ok {x : V} {u t : Value} (I : Inv X pins σ H s) (rx : RelV x u) (ty : TyOf X.K H x t) (e : PySem.W.kitOne X.K t c = some b) (h : ∀ tk, Q (.bool b) { s with toks := tk }) :
    wpAny (model X.prog X.w) A (call (.builtin "isinstance") [u, c]) Q E s := by
  cases ty with
  | non => cases (show u = Value.none from rx); exact PySem.W.kia_one PySem.W.kitx_none I.kIn True.intro e (fun z => nomatch z) h
  | bl y => cases (show u = Value.bool y from rx); exact PySem.W.kia_one PySem.W.kitx_bool I.kIn True.intro e (fun z => nomatch z) h
  | int i => obtain ⟨t, q⟩ := (show ∃ t, u = Value.int i t from rx); cases q; exact PySem.W.kia_one PySem.W.kitx_int I.kIn True.intro e (fun z => nomatch z) h
  | str y => obtain ⟨t, q⟩ := (show ∃ t, u = Value.str y t from rx); cases q; exact PySem.W.kia_one PySem.W.kitx_str I.kIn True.intro e (fun z => nomatch z) h
  | flt y => obtain ⟨t, q⟩ := (show ∃ t, u = Value.float y t from rx); cases q; exact PySem.W.kia_one PySem.W.kitx_float I.kIn True.intro e (fun z => nomatch z) h
  | @lst a xs ea =>
    cases (show u = Value.ref a from rx)
    obtain ⟨_, _, n, _, h1⟩ := (show ObjOk X.prog X.w H s.heap a (.lst xs) from I.hok a _ ea)
    exact PySem.W.kia_one PySem.W.kitx_list I.kIn ⟨_, h1, rfl⟩ e (fun z => nomatch z) h
  | @frz a ob xs ea =>
    cases (show u = Value.ref a from rx)
    obtain ⟨_, _, _, n, _, h1⟩ := (show ObjOk X.prog X.w H s.heap a (.frz ob (.lst xs)) from I.hok a _ ea)
    exact PySem.W.kia_one PySem.W.kitx_list I.kIn ⟨_, h1, rfl⟩ e (fun z => nomatch z) h
  | @tup a xs ea =>
    cases (show u = Value.ref a from rx)
    obtain ⟨_, _, _, p⟩ := (show ObjOk X.prog X.w H s.heap a (.tup xs) from I.hok a _ ea)
    obtain ⟨o, h1, h2, _⟩ := p
    exact PySem.W.kia_one PySem.W.kitx_tuple I.kIn ⟨o, h1, h2⟩ e (fun z => nomatch z) h
  | @dK a kvs ea =>
    cases (show u = Value.ref a from rx)
    obtain ⟨_, _, vs, _, p⟩ := (show ObjOk X.prog X.w H s.heap a (.dK kvs) from I.hok a _ ea)
    obtain ⟨o, es, ep, h1, h2, _⟩ := p
    exact PySem.W.kia_one PySem.W.kitx_dict I.kIn ⟨o, h1, h2.1⟩ e (fun z => nomatch z) h
  | @dT a kvs ea =>
    cases (show u = Value.ref a from rx)
    obtain ⟨_, _, xs, _, o, es, ep, h1, h2, _⟩ := (show ObjOk X.prog X.w H s.heap a (.dT kvs) from I.hok a _ ea)
    exact PySem.W.kia_one PySem.W.kitx_dict I.kIn ⟨o, h1, h2.1⟩ e (fun z => nomatch z) h
  | @ins a C dx fs ea cl ha hn htk hm =>
    cases (show u = Value.ref a from rx)
    obtain ⟨mA, O, _⟩ := ins_get I.hok ea
    obtain ⟨od, J, _⟩ := O.look
    exact PySem.W.kia_one (PySem.W.kitx_own (cl.get _) cl.hd ha hn htk hm) I.kIn J e (fun z => nomatch z) h
end
end L2
namespace L2
open PySem PySem.Spec PyProof.Rows
structure Room (k : Nat) (A : Around) : Prop where
  hd : A.handled = none
  dp : A.depth + 3 * k + 5 < recursionLimit
  un : A.units + 16 * k + 200 < cLine
  gd : A.guards = some []
theorem Room.mono {j k : Nat} {A : Around} (r : Room k A) (h : j ≤ k) : Room j A := ⟨r.hd, by have := r.dp; omega, by have := r.un; omega, r.gd⟩
theorem Room.deeper {k : Nat} {A : Around} (r : Room (k + 1) A) (env : Env) : Room k (A.deeper env) :=
  ⟨r.hd, by have := r.dp; show A.depth + 1 + 3 * k + 5 < _; omega, by have := r.un; show A.units + 3 + 16 * k + 200 < _; omega, r.gd⟩
theorem Room.in1 {k : Nat} {A : Around} (r : Room (k + 1) A) : Room k A.in1 :=
  ⟨r.hd, by have := r.dp; show A.depth + 3 * k + 5 < _; omega, by have := r.un; show A.units + 1 + 16 * k + 200 < _; omega, r.gd⟩
theorem make_depth {A : Around} {C : Addr} {us : List Value} {kw : List (Str × Value)} : (A.under (.builtin "type.__call__" ⟨.ref C :: us, kw⟩)).depth = A.depth + 1 := by
  first | rfl | simp [Around.under, Code.weight, Code.isCreation, Code.isGuard, Code.isCaller, Code.frames, Code.isFrame, guardIds]
theorem make_units {A : Around} {C : Addr} {us : List Value} {kw : List (Str × Value)} : (A.under (.builtin "type.__call__" ⟨.ref C :: us, kw⟩)).units = A.units + 1 := by
  first | rfl | simp [Around.under, Code.cUnits, Code.frames, Code.isFrame]
theorem make_guards {A : Around} {C : Addr} {us : List Value} {kw : List (Str × Value)} : (A.under (.builtin "type.__call__" ⟨.ref C :: us, kw⟩)).guards = A.guards := by
  first | rfl | simp [Around.under, Code.guards, Code.isGuard, guardIds, pushGuards]
theorem Room.make {k : Nat} {A : Around} (r : Room (k + 1) A) (C : Addr) (us : List Value) (kw : List (Str × Value)) : Room k (A.under (.builtin "type.__call__" ⟨.ref C :: us, kw⟩)) :=
  ⟨r.hd, by have := r.dp; rw [make_depth]; omega, by have := r.un; rw [make_units]; omega, by rw [make_guards]; exact r.gd⟩
theorem Room.depth {k : Nat} {A : Around} (r : Room k A) : A.depth < recursionLimit := by have := r.dp; omega
theorem Room.units {k : Nat} {A : Around} (r : Room k A) : A.units + 64 < cLine := by have := r.un; omega
def tNil : TA := fun _ H Q => Q [] H
def tCons (ta : TE) (tr : TA) : TA := fun σ H Q => ta σ H fun x H1 => tr σ H1 fun xs H2 => Q (x :: xs) H2
section
variable {X : Cx} {e : Expr} {es : List Expr} {te : TE} {t : TA} {pos : Pos}
theorem pa_nil : PA X [] tNil := fun _ _ _ _ H Q I h => Calls.spliced_nil ⟨[], H, I, .nil, h⟩
theorem pa_cons (ha : PE X e te) (hr : PA X es t) (hs : starEach (e :: es) X.env = (false, eval e X.env) :: starEach es X.env := by rfl) : PA X (e :: es) (tCons te t) := by
  intro pos pins s σ H Q I h
  rw [hs]
  show wpAny _ _ (spliced ((false, eval e X.env) :: backTo pos (starEach es X.env))) _ _ s
  refine Calls.spliced_cons (thn (ha pins s σ H _ I h) fun u s1 ⟨x, H1, I1, r1, q1⟩ => ?_)
  exact thn (hr pos pins s1 σ H1 _ I1 q1) fun us s2 ⟨xs, H2, I2, r2, q2⟩ => ⟨x :: xs, H2, I2, .cons r1 r2, q2⟩
def tTup (t : TA) : TE := fun σ H Q => t σ H fun xs H1 => xs.length ≤ sizeLine ∧ ∀ p, H1 p = none → Q (.ref p) (upd H1 p (.tup xs))
def tLst (t : TA) : TE := fun σ H Q => t σ H fun xs H1 => xs.length ≤ sizeLine ∧ ∀ p, H1 p = none → Q (.ref p) (upd H1 p (.lst xs))
theorem pe_tup {x1} (h : PA X es t) : PE X (.Tuple es x1 pos) (tTup t) := by
  intro pins s σ H Q I hq
  refine wpAny_Tuple_spliced (thn (h pos pins s σ H _ I hq) fun us s1 ⟨xs, H1, I1, r, z, q⟩ => ⟨by rw [← r.length]; exact z, ?_⟩)
  have hf : H1 s1.heap.objs.size = none := I1.hok.fresh (Nat.le_refl _)
  refine ⟨.ref s1.heap.objs.size, upd H1 s1.heap.objs.size (.tup xs), I1.laid (t' := s1.toks) (fun b u e => Heap.get?_push_of_some _ e) (Nat.le_refl _) ?_, rfl, q _ hf⟩
  exact ⟨z, us, r, ⟨_, Heap.get?_push_size _ rfl, rfl, _, rfl⟩⟩
theorem pe_lst (h : PA X es t) : PE X (.List es pos) (tLst t) := by
  intro pins s σ H Q I hq
  refine wpAny_List_spliced (thn (h pos pins s σ H _ I hq) fun us s1 ⟨xs, H1, I1, r, z, q⟩ => ⟨by rw [← r.length]; exact z, ?_⟩)
  have hf : H1 s1.heap.objs.size = none := I1.hok.fresh (Nat.le_refl _)
  refine ⟨.ref s1.heap.objs.size, upd H1 s1.heap.objs.size (.lst xs), I1.laid (t' := s1.toks) (fun b u e => Heap.get?_push_of_some _ e) (Nat.le_refl _) ?_, rfl, q _ hf⟩
  exact ⟨z, us, 0, r, Heap.get?_push_size _ rfl⟩
end
abbrev Sp := List V → Hp → VK → XK → Prop
abbrev CXT := List Env → Hp → Shared → XK → Value → Shared → Prop
structure Env0 (P : Program) (w : World) (K : PySem.W.Frag) (mg : Str → Option Value) (base : Heap) (A : Around) (outer : List Env) (s : Shared) (H : Hp) : Prop where
  frames : A.frames = some outer
  mod : Mod K mg base
  bs : ∀ b o, base.get? b = some o → s.heap.get? b = some o ∧ H b = none
  bsz : base.objs.size ≤ s.heap.objs.size
  funs : s.heap.FunFrames base outer
  frf : ∀ b ∈ frs outer, H b = none
  hok : HOk P w H s.heap
  bare : AllBare s.gens
def CE (outer : List Env) (P : Program) (w : World) (H : Hp) (s : Shared) (Q : VK) (u : Value) (s' : Shared) : Prop :=
  ∃ v H', s'.os = s.os ∧ AllBare s'.gens ∧ Un (frs outer) [] H H' s.heap s'.heap ∧ HOk P w H' s'.heap ∧ RelV v u ∧ Q v H'
def CR (CX : CXT) (outer : List Env) (P : Program) (w : World) (H : Hp) (s : Shared) (Q : VK) (E : XK) (r : Result) (s' : Shared) : Prop :=
  match r with
  | .ok (.ret u) => CE outer P w H s Q u s'
  | .ok _ => False
  | .error e => CX outer H s E e s'
structure FnOk (P : Program) (w : World) (K : PySem.W.Frag) (mg : Str → Option Value) (base : Heap) (CX : CXT) (k : Nat) (f : Addr) (fd : FuncData) (ps : List Str) (sp : Sp) : Prop where
  len : ∀ vs H Q E, sp vs H Q E → vs.length = ps.length
  run : ∀ (A : Around) (outer : List Env) (s : Shared) (H : Hp) (args : Args) (us : List Value) (vs : List V) (Q : VK) (E : XK), Room k A → Env0 P w K mg base A outer s H → BindsTo s fd args (ps.zip us) → Vals vs us → sp vs H Q E →
    codeAny (model P w) A (.call (.ref f) args) (CR CX outer P w H s Q E) s
theorem FnOk.mono {P : Program} {w : World} {K : PySem.W.Frag} {mg : Str → Option Value} {base : Heap} {CX : CXT} {j k : Nat} {f : Addr} {fd : FuncData} {ps : List Str} {sp : Sp} (F : FnOk P w K mg base CX j f fd ps sp) (h : j ≤ k) :
    FnOk P w K mg base CX k f fd ps sp := ⟨F.len, fun A outer s H args us vs Q E hr => F.run A outer s H args us vs Q E (hr.mono h)⟩
theorem FnOk.imp {P : Program} {w : World} {K : PySem.W.Frag} {mg : Str → Option Value} {base : Heap} {CX : CXT} {k : Nat} {f : Addr} {fd : FuncData} {ps : List Str} {sp sp' : Sp} (F : FnOk P w K mg base CX k f fd ps sp)
    (h : ∀ vs H Q E, sp' vs H Q E → sp vs H Q E) : FnOk P w K mg base CX k f fd ps sp' :=
  ⟨fun vs H Q E q => F.len vs H Q E (h _ _ _ _ q), fun A outer s H args us vs Q E hr he hb hv hs => F.run A outer s H args us vs Q E hr he hb hv (h _ _ _ _ hs)⟩
theorem Env0.make {P : Program} {w : World} {K : PySem.W.Frag} {mg : Str → Option Value} {base : Heap} {A : Around} {outer : List Env} {s : Shared} {H : Hp} (e : Env0 P w K mg base A outer s H) (C : Addr) (us : List Value) (kw : List (Str × Value)) :
    Env0 P w K mg base (A.under (.builtin "type.__call__" ⟨.ref C :: us, kw⟩)) outer s H := ⟨by first | exact e.frames | (simpa [Around.under, Code.envs, Code.isFrame, pushEnvs] using e.frames), e.mod, e.bs, e.bsz, e.funs, e.frf, e.hok, e.bare⟩
theorem Env0.in1 {P : Program} {w : World} {K : PySem.W.Frag} {mg : Str → Option Value} {base : Heap} {A : Around} {outer : List Env} {s : Shared} {H : Hp} (e : Env0 P w K mg base A outer s H) :
    Env0 P w K mg base A.in1 outer s H := ⟨e.frames, e.mod, e.bs, e.bsz, e.funs, e.frf, e.hok, e.bare⟩
section
variable {X : Cx} {pins : List (Addr × Obj)} {σ : St} {H : Hp} {s s' : Shared}
theorem Inv.env0 (I : Inv X pins σ H s) : Env0 X.prog X.w X.K X.mg X.base X.A X.stack s H :=
  ⟨I.ok.frames, I.ok.mod, I.bs, Nat.le_trans I.ok.bsz I.sz, I.stack, I.stkFree, I.hok, I.bare⟩
theorem Inv.after {Q : VK} {u : Value} (I : Inv X pins σ H s) (h : CE X.stack X.prog X.w H s Q u s') : EP X pins σ Q u s' := by
  obtain ⟨v, H', os, bare, un, hok, r, q⟩ := h
  obtain ⟨hh, g, d, t, os'⟩ := s'
  obtain rfl : os' = s.os := os
  exact ⟨v, H', I.call (h' := hh) (g' := g) (d' := d) (t' := t) (ch := []) un hok bare (fun b z => absurd z (by simp)), r, q⟩
end
def tCall (sp : Sp) (dvs : List V) (E : XK) (t : TA) : TE := fun σ H Q => t σ H fun vs H1 => sp (vs ++ dvs) H1 Q E
def Binds (K : PySem.W.Frag) (fd : FuncData) (ps : List Str) (ds : List Value) : Prop :=
  ∀ (s : Shared) (us : List Value), K.In s.heap → (us ++ ds).length = ps.length → BindsTo s fd ⟨us, []⟩ (ps.zip (us ++ ds))
theorem Binds.all {K : PySem.W.Frag} {fd : FuncData} {ps : List Str} (h : ∀ us : List Value, us.length = ps.length → bindArgs fd ⟨us, []⟩ = pure (ps.zip us)) : Binds K fd ps [] := fun s us _ hl => by
  rw [List.append_nil] at hl ⊢
  exact .of_eq (h us hl)
def Passes (CX : CXT) (X : Cx) (E : XK) : Prop := ∀ (pins : List (Addr × Obj)) (σ : St) (H : Hp) (s : Shared) (e : Value) (s' : Shared), Inv X pins σ H s → CX X.stack H s E e s' → X.xe e s'
section
variable {X : Cx} {CX : CXT} {k : Nat} {f C : Addr} {fd : FuncData} {ps : List Str} {sp : Sp} {dvs : List V} {ds : List Value} {E : XK} {x m : Str} {p pos apos : Pos} {e o : Expr} {es : List Expr} {ta : TE} {t : TA}
theorem run_fn {pins : List (Addr × Obj)} {σ : St} {H : Hp} {s : Shared} {Q : VK} {us : List Value} {vs : List V} (F : FnOk X.prog X.w X.K X.mg X.base CX k f fd ps sp) (hr : Room k X.A) (hb : Binds X.K fd ps ds) (hd : Vals dvs ds) (hx : Passes CX X E)
    (I : Inv X pins σ H s) (r : Vals vs us) (h : sp (vs ++ dvs) H Q E) : wpAny (model X.prog X.w) X.A (call (.ref f) us) (EP X pins σ Q) X.xe s := by
  have r2 : Vals (vs ++ dvs) (us ++ ds) := r.append hd
  have hl : (us ++ ds).length = ps.length := by rw [← r2.length]; exact F.len _ _ _ _ h
  refine wpAny_call (codeAny_mono (F.run X.A X.stack s H ⟨us, []⟩ (us ++ ds) (vs ++ dvs) Q E hr I.env0 (hb s us I.kIn hl) r2 h) fun r s' hq => ?_)
  cases r with
  | error e => exact hx pins σ H s e s' I hq
  | ok fl =>
    cases fl with
    | ret u => exact I.after hq
    | next => exact False.elim hq
    | brk => exact False.elim hq
    | cont => exact False.elim hq
theorem pe_call (F : FnOk X.prog X.w X.K X.mg X.base CX k f fd ps sp) (hr : Room k X.A) (hg : Gl X x) (hm : X.mg x = some (.ref f)) (hk : PySem.W.keepIn X.K (.ref f) = true) (hb : Binds X.K fd ps ds) (hd : Vals dvs ds) (hx : Passes CX X E)
    (ha : PA X (e :: es) t) (hdb : (x == ("__debug__" : Str)) = false := by decide) (he : starEach (e :: es) X.env = (false, eval e X.env) :: starEach es X.env := by rfl) (hpl : (backTo pos (starEach es X.env)).any (·.1) = false := by rfl) :
    PE X (.Call (.Name x p) (e :: es) [] pos) (tCall sp dvs E t) := by
  intro pins s σ H Q I h
  refine wpAny_Call_Name_kw (ld_glob I hg hm ?_ hdb)
  refine PySem.W.callWith_K (h₀ := X.base) I.ok.mod.kin hk (thn (ha pos pins s σ H _ I h) fun us s1 ⟨vs, H1, I1, r, q⟩ => ⟨I1.kIn, ?_⟩) he hpl
  exact run_fn F hr hb hd hx I1 r q
structure Mk (K : PySem.W.Frag) (C f : Addr) : Prop where
  makes : PySem.W.makesIn K C = true
  init : PySem.W.findIn K (.ref C) "__init__" = some (some (.ref f))
  fn : PySem.W.isFn K (.ref f) = true
  kp : PySem.W.keepIn K (.ref C) = true
end
section
variable {X : Cx} {CX : CXT} {k : Nat} {f C : Addr} {fd : FuncData} {ps ks : List Str} {sp : Sp} {E : XK} {x m : Str} {p pos apos kpos : Pos} {e o : Expr} {es : List Expr} {kws : List Keyword} {te ta : TE} {t tk : TA} {nm : Option Str}
structure KBinds (K : PySem.W.Frag) (fd : FuncData) (ps ks : List Str) (g : List Value → List Value → List Value) (gV : List V → List V → List V) : Prop where
  to : ∀ (s : Shared) (us ws : List Value), K.In s.heap → (g us ws).length = ps.length → BindsTo s fd ⟨us, ks.zip ws⟩ (ps.zip (g us ws))
  rel : ∀ {vs : List V} {us : List Value} {zs : List V} {ws : List Value}, Vals vs us → Vals zs ws → Vals (gV vs zs) (g us ws)
variable {g : List Value → List Value → List Value} {gV : List V → List V → List V}
end
structure FnScope (N P : List Str) (sc : Scope) : Prop where
  kind : sc.kind = .function
  co : sc.isCoroutine = false
  gen : sc.isGenerator = false
  nd : N.Nodup
  pre : N.take P.length = P
  par : ∀ x ∈ P, sc.names.lookup x = some .local ∨ sc.names.lookup x = some .cell
  nofree : ∀ y ∈ sc.names, y.2 ≠ .free
theorem bindL_out {kindOf : Str → Option NameKind} {x : Str} : ∀ {binds : List (Str × Value)} {m : Str → Option Value}, (∀ v, (x, v) ∉ binds) → bindL kindOf binds m x = m x
  | [], _, _ => rfl
  | (n, v) :: r, m, h => by
    unfold bindL
    rw [bindL_out fun w hw => h w (List.mem_cons_of_mem _ hw)]
    split
    · have : x ≠ n := by rintro rfl; exact h v List.mem_cons_self
      simp [this]
    · rfl
theorem bindC_out {kindOf : Str → Option NameKind} {x : Str} : ∀ {binds : List (Str × Value)} {m : Str → Option Value}, (∀ v, (x, v) ∉ binds) → bindC kindOf binds m x = m x
  | [], _, _ => rfl
  | (n, v) :: r, m, h => by
    unfold bindC
    rw [bindC_out fun w hw => h w (List.mem_cons_of_mem _ hw)]
    split
    · rfl
    · have : x ≠ n := by rintro rfl; exact h v List.mem_cons_self
      simp [this]
theorem bindL_get {kindOf : Str → Option NameKind} {x : Str} {v : Value} : ∀ {P : List Str} {vs : List Value} {i : Nat} {m : Str → Option Value}, P.Nodup → P[i]? = some x → vs[i]? = some v → kindOf x = some .local →
    bindL kindOf (P.zip vs) m x = some v
  | [], _, _, _, _, h, _, _ => by simp at h
  | _ :: _, [], _, _, _, _, h, _ => by simp at h
  | p :: P, w :: vs, 0, m, nd, h1, h2, hk => by
    simp at h1 h2; subst h1; subst h2
    show bindL kindOf ((p, w) :: P.zip vs) m p = _
    unfold bindL
    rw [bindL_out fun v hv => (List.nodup_cons.mp nd).1 (List.of_mem_zip hv).1, if_pos hk]
    simp
  | p :: P, w :: vs, i + 1, m, nd, h1, h2, hk => by
    show bindL kindOf ((p, w) :: P.zip vs) m x = _
    unfold bindL
    exact bindL_get (i := i) (List.nodup_cons.mp nd).2 (by simpa using h1) (by simpa using h2) hk
theorem bindC_get {kindOf : Str → Option NameKind} {x : Str} {v : Value} : ∀ {P : List Str} {vs : List Value} {i : Nat} {m : Str → Option Value}, P.Nodup → P[i]? = some x → vs[i]? = some v → kindOf x ≠ some .local →
    bindC kindOf (P.zip vs) m x = some v
  | [], _, _, _, _, h, _, _ => by simp at h
  | _ :: _, [], _, _, _, _, h, _ => by simp at h
  | p :: P, w :: vs, 0, m, nd, h1, h2, hk => by
    simp at h1 h2; subst h1; subst h2
    show bindC kindOf ((p, w) :: P.zip vs) m p = _
    unfold bindC
    rw [bindC_out fun v hv => (List.nodup_cons.mp nd).1 (List.of_mem_zip hv).1, if_neg hk]
    simp
  | p :: P, w :: vs, i + 1, m, nd, h1, h2, hk => by
    show bindC kindOf ((p, w) :: P.zip vs) m x = _
    unfold bindC
    exact bindC_get (i := i) (List.nodup_cons.mp nd).2 (by simpa using h1) (by simpa using h2) hk
def start (N : List Str) (vs : List V) : St := vs.map some ++ List.replicate (N.length - vs.length) none
def cxOf (CX : CXT) (P : Program) (w : World) (K : PySem.W.Frag) (mg : Str → Option Value) (base : Heap) (N : List Str) (qual : Str) (scope : Scope) (f : Addr) (cd : Value) (A : Around) (outer : List Env) (s : Shared) (H : Hp) (E : XK) : Cx where
  prog := P
  w := w
  K := K
  mg := mg
  base := base
  A := A.deeper (envOfC qual scope s.heap.objs.size f cd)
  N := N
  s₀ := s
  H₀ := H
  env := envOfC qual scope s.heap.objs.size f cd
  outer := outer
  stack := envOfC qual scope s.heap.objs.size f cd :: outer
  ex := []
  calm := true
  fn := fun _ => true
  pn := []
  xe := fun e s' => wpAny (model P w) (A.deeper (envOfC qual scope s.heap.objs.size f cd)) (leaving (envOfC qual scope s.heap.objs.size f cd) e) (fun _ s'' => CX outer H s E e s'') (fun e' s'' => CX outer H s E e' s'') s'
theorem cell_has {sc : Scope} {n : Nat} {x : Str} (h : sc.names.lookup x = some .cell) : ∃ c, (cellsFrom n sc.names []).lookup x = some c := by
  have q := PySem.W.cellsFrom_some sc.names n [] (.inl h)
  exact Option.isSome_iff_exists.mp q
theorem inv_start {CX : CXT} {P : Program} {w : World} {K : PySem.W.Frag} {mg : Str → Option Value} {base : Heap} {N ps : List Str} {qual : Str} {scope : Scope} {f : Addr} {cd : Value} {A : Around} {outer : List Env} {s s1 : Shared} {H : Hp} {E : XK} {us : List Value} {vs : List V}
    (S : FnScope N ps scope) (hd : A.handled = none) (e0 : Env0 P w K mg base A outer s H) (hl : vs.length = ps.length) (r : Vals vs us)
    (x : InCallC s s.heap.objs.size (bindL (envOfC qual scope s.heap.objs.size f cd).kindOf (ps.zip us) fun _ => none) (cellsFrom (s.heap.objs.size + 1) scope.names []) (bindC (envOfC qual scope s.heap.objs.size f cd).kindOf (ps.zip us) fun _ => none) s1) :
    Inv (cxOf CX P w K mg base N qual scope f cd A outer s H E) [] (start N vs) H s1 := by
  have hpl : ps.length ≤ N.length := by have := congrArg List.length S.pre; rw [List.length_take] at this; omega
  obtain ⟨h1, tk, rfl, hk⟩ := x.done
  have noA : ∀ b : Addr, b ∉ (cxOf CX P w K mg base N qual scope f cd A outer s H E).ex := fun b z => absurd (show b ∈ ([] : List Addr) from z) (by simp)
  refine ⟨⟨e0.mod, S.kind, rfl, rfl, Nat.le_refl _, fun y z c h1 h2 => ?_, fun y hy => ?_, fun y c _ h => ?_, fun _ => hd, Around.frames_deeper e0.frames, .inr ⟨rfl, rfl⟩, fun b z => absurd z (noA b), e0.bs, e0.bsz, fun b _ _ => noA b, fun b z => absurd z (noA b), e0.funs, e0.frf⟩,
    rfl, e0.bare, Un.kept hk, ⟨_, x.toInCall.ns, fun i y v h1 h2 h3 => ?_⟩, fun y c h => ⟨_, x.cell y c h⟩, e0.hok.fresh (Nat.le_refl _), fun y c h => ?_, fun p hp => absurd (show p ∈ ([] : List (Addr × Obj)) from hp) (by simp), e0.hok.kept hk, ?_⟩
  · exact name_of_addr x.apart (PySem.mem_of_lookup h1) (PySem.mem_of_lookup h2)
  · have hy : scope.names.lookup y = some .cell ∨ scope.names.lookup y = some .free := hy
    rcases hy with hy | hy
    · exact cell_has hy
    · exact absurd rfl (S.nofree _ (PySem.mem_of_lookup hy))
  · exact Nat.le_of_lt (x.above y c (PySem.mem_of_lookup h))
  · have hi : i < vs.length := by
      unfold start at h2
      by_cases hi : i < vs.length
      · exact hi
      · rw [List.getElem?_append_right (by simpa using hi)] at h2
        rw [List.getElem?_replicate] at h2
        split at h2 <;> cases h2
    have ha : vs[i]? = some v := by
      unfold start at h2
      rw [List.getElem?_append_left (by simpa using hi), List.getElem?_map] at h2
      cases e : vs[i]? with
      | none => rw [e] at h2; cases h2
      | some a => rw [e] at h2; cases h2; rfl
    obtain ⟨u, hu, rv⟩ := r.get ha
    have hp : ps[i]? = some y := by
      rw [← S.pre, List.getElem?_take_of_lt (by omega)]; exact h1
    have ndP : ps.Nodup := by rw [← S.pre]; exact S.nd.sublist (List.take_sublist _ _)
    refine ⟨u, rv, ?_⟩
    rcases S.par y (List.mem_of_getElem? hp) with k | k
    · exact .inl ⟨k, bindL_get ndP hp hu k⟩
    · obtain ⟨c, e⟩ := cell_has (n := s.heap.objs.size + 1) k
      refine .inr ⟨.inl k, c, e, ?_⟩
      have q := x.cell y c e
      rw [bindC_get ndP hp hu (by show scope.names.lookup y ≠ _; rw [k]; decide)] at q
      exact q
  · exact e0.hok.fresh (Nat.le_of_lt (x.above y c (PySem.mem_of_lookup h)))
  · unfold start
    show _ = N.length
    rw [List.length_append, List.length_map, List.length_replicate]
    omega
theorem fn_of {CX : CXT} {P : Program} {w : World} {K : PySem.W.Frag} {mg : Str → Option Value} {base : Heap} {k : Nat} {f : Addr} {name qual : Str} {params : Arguments} {body : List Stmt} {scope : Scope} {dV kV doc pm cdv ct oc : Value} {an od : Option Addr}
    {osl : Array (Option Value)} {N ps : List Str} {sp : Sp} (lk : K.lookup f = some ⟨oc, od, .func (PySem.W.fnOf name qual params body scope dV kV doc pm an cdv ct), osl⟩) (hcd : PySem.W.codeIn K cdv qual = true) (S : FnScope N ps scope)
    (len : ∀ vs H Q E, sp vs H Q E → vs.length = ps.length)
    (hbody : ∀ (A : Around) (outer : List Env) (s : Shared) (H : Hp) (vs : List V) (Q : VK) (E : XK), Room k (A.deeper (envOfC qual scope s.heap.objs.size f cdv)) → sp vs H Q E →
      ∃ t, PSs (cxOf CX P w K mg base N qual scope f cdv A outer s H E) body t ∧ t { nx := fun _ H' => Q .non H', rt := Q } (start N vs) H) :
    FnOk P w K mg base CX (k + 1) f (PySem.W.fnOf name qual params body scope dV kV doc pm an cdv ct) ps sp := by
  refine ⟨len, fun A outer s H args us vs Q E hr e0 hb r hsp => ?_⟩
  have hl := len _ _ _ _ hsp
  have KX : K.In s.heap := e0.mod.kin.keeps fun b o e => (e0.bs b o e).1
  have lim : s.heap.NoLimit := e0.mod.nolimit.keeps fun b o e => (e0.bs b o e).1
  have hkind : ∀ y ∈ ps.zip us, scope.names.lookup y.1 = some .local ∨ (scope.names.lookup y.1 = some .cell ∧ ((cellsFrom (s.heap.objs.size + 1) scope.names []).lookup y.1).isSome = true) := fun ⟨n, v⟩ hy => by
    rcases S.par n (List.of_mem_zip hy).1 with q | q
    · exact .inl q
    · exact .inr ⟨q, PySem.W.cellsFrom_some _ _ _ (.inl q)⟩
  refine codeAny_call_function hr.depth (KX _ _ lk) rfl S.co S.gen rfl (PySem.W.codeRec_of KX hcd) (hb _ _ _ _ ?_)
  refine wpAny_newFunctionEnv_cells S.kind hkind fun env he s1 x => ?_
  subst he
  refine ⟨lim.keeps x.toInCall.keep, codeAny_func ?_⟩
  obtain ⟨t, ht, hq⟩ := hbody A outer s H vs Q E (hr.deeper _) hsp
  have I : Inv (cxOf CX P w K mg base N qual scope f cdv A outer s H E) [] (start N vs) H s1 := inv_start S hr.hd e0 hl r x
  refine wpAny_mono (ht [] s1 (start N vs) H _ I hq) (fun fl s' hs => ?_) fun e s' hs => hs
  have fin : ∀ {σ' : St} {H' : Hp} {v : V} {u : Value}, Inv (cxOf CX P w K mg base N qual scope f cdv A outer s H E) [] σ' H' s' → RelV v u → Q v H' → CE outer P w H s Q u s' :=
    fun {σ' H' v u} J rv q => ⟨v, H', J.os, J.bare, J.base, J.hok, rv, q⟩
  cases fl with
  | ret u =>
    obtain ⟨v, σ', H', J, rv, q⟩ := hs
    exact fin J rv q
  | next =>
    obtain ⟨σ', H', J, q⟩ := hs
    exact fin (v := V.non) (u := Value.none) J rfl q
  | brk =>
    obtain ⟨_, _, _, q⟩ := hs
    exact False.elim q
  | cont =>
    obtain ⟨_, _, _, q⟩ := hs
    exact False.elim q
end L2
namespace L2
open PySem PySem.Spec PyProof.Rows
section
variable {X : Cx} {x : Str} {p pos : Pos} {e : Expr} {es : List Expr} {t : TA} {id T : String} {r : List V → Hp → VK → Prop}
def tCB (r : List V → Hp → VK → Prop) (t : TA) : TE := fun σ H Q => t σ H fun vs H1 => r vs H1 Q
theorem pe_callB (hc : CallR X (.builtin id) r) (hg : Gl X x) (hm : X.mg x = none) (hv : bootBuiltins x = some (.builtin id)) (ha : PA X (e :: es) t) (hn : x ≠ "__name__" := by decide) (hdb : (x == ("__debug__" : Str)) = false := by decide)
    (he : starEach (e :: es) X.env = (false, eval e X.env) :: starEach es X.env := by rfl) (hpl : (backTo pos (starEach es X.env)).any (·.1) = false := by rfl) : PE X (.Call (.Name x p) (e :: es) [] pos) (tCB r t) := by
  intro pins s σ H Q I h
  refine wpAny_Call_Name_kw (ld_blt I hg hm hv ?_ hn hdb)
  exact PyProof.Rows.callWith_builtin1 (thn (ha pos pins s σ H _ I h) fun us s1 ⟨vs, H1, I1, r1, q1⟩ => hc pins s1 σ H1 vs us Q I1 r1 q1) he hpl
theorem pe_callTy (hc : CallR X (.type T) r) (hg : Gl X x) (hm : X.mg x = none) (hv : bootBuiltins x = some (.type T)) (ha : PA X (e :: es) t) (hn : x ≠ "__name__" := by decide) (hdb : (x == ("__debug__" : Str)) = false := by decide)
    (he : starEach (e :: es) X.env = (false, eval e X.env) :: starEach es X.env := by rfl) (hpl : (backTo pos (starEach es X.env)).any (·.1) = false := by rfl) : PE X (.Call (.Name x p) (e :: es) [] pos) (tCB r t) := by
  intro pins s σ H Q I h
  refine wpAny_Call_Name_kw (ld_blt I hg hm hv ?_ hn hdb)
  exact PyProof.Rows.callWith_type1 (thn (ha pos pins s σ H _ I h) fun us s1 ⟨vs, H1, I1, r1, q1⟩ => hc pins s1 σ H1 vs us Q I1 r1 q1) he hpl
end
end L2
namespace HT
open PySem PyProof.Rows
section
open PySem.SeqAt
open PySem.AutoSeq1 (wpAny_loadPart')
open PySem.MeetsSeq PySem.MeetsSeq2 PySem.MeetsSeq3
end
section
variable {prog : Program} {w : World} {A : Around} {E : Value → Shared → Prop} {s : Shared}
theorem cat_tup {t b : Addr} {vs ws : List Value} {Q : Value → Shared → Prop} (ht : IsTup s.heap t vs.toArray) (hb : IsTup s.heap b ws.toArray) (hv : vs ≠ [])
    (h1 : ws = [] → Q (.ref t) s) (h2 : ws ≠ [] → Q (.ref s.heap.objs.size) { s with heap := s.heap.push { cls := .type "tuple", data := .seq (vs ++ ws).toArray } })
    (hsz : vs.length + ws.length ≤ sizeLine) : wpAny (model prog w) A (binaryOp .Add (.ref t) (.ref b)) Q E s := by
  obtain ⟨⟨cls, dd, data, sl⟩, ho, hc, n, hd⟩ := id ht
  obtain ⟨⟨cls2, dd2, data2, sl2⟩, ho2, hc2, n2, hd2⟩ := id hb
  simp only at hc hd hc2 hd2
  subst hc hd hc2 hd2
  have e : vs.toArray ++ ws.toArray = (vs ++ ws).toArray := by simp
  by_cases hw : ws = []
  · exact concat_meets ⟨_, ho, rfl⟩ ⟨_, ho2, rfl⟩ noFill_tuple_add seq_tuple_add PySem.F.slot_tuple_add PySem.F.entry_tuple_add (PySem.F.args_tuple_add_2 _ _)
      (tuple_addW1 t b vs.toArray ws.toArray n n2 dd dd2 sl sl2 (by simpa using hv) (by simp [hw])) ⟨ho, ho2, h1 hw⟩
  · refine concat_meets ⟨_, ho, rfl⟩ ⟨_, ho2, rfl⟩ noFill_tuple_add seq_tuple_add PySem.F.slot_tuple_add PySem.F.entry_tuple_add (PySem.F.args_tuple_add_2 _ _)
      (tuple_addW2 t b vs.toArray ws.toArray n n2 dd dd2 sl sl2 (by simpa using hv) (by simpa using hw) (by rw [List.size_toArray, List.size_toArray]; exact hsz)) ⟨ho, ho2, ?_⟩
    rw [e]
    exact h2 hw
end
end HT
namespace L2
open PySem PySem.Spec PyProof.Rows
abbrev TO := St → Hp → (Option Int → Hp → Prop) → Prop
def PO (X : Cx) (e : Option Expr) (t : TO) : Prop :=
  ∀ (pins : List (Addr × Obj)) (s : Shared) (σ : St) (H : Hp) (Q : Option Int → Hp → Prop), Inv X pins σ H s → t σ H Q →
    wpAny (model X.prog X.w) X.A (evalPart e X.env) (fun u s' => ∃ o H', Inv X pins σ H' s' ∧ IsPart u o ∧ Q o H') X.xe s
def tNoPart : TO := fun _ H Q => Q none H
def tPart (t : TE) : TO := fun σ H Q => t σ H fun x H1 => ∃ i, x = .int i ∧ Q (some i) H1
section
variable {X : Cx} {e : Expr} {te : TE} {lo hi : Option Expr} {tl th : TO} {pos p2 : Pos}
theorem po_none : PO X none tNoPart := by
  intro pins s σ H Q I h
  rw [evalPart_none]
  exact wpAny_pure ⟨none, H, I, .none, h⟩
theorem po_some (h : PE X e te) : PO X (some e) (tPart te) := by
  intro pins s σ H Q I hw
  rw [evalPart_some]
  refine thn (h pins s σ H _ I hw) fun u s1 ⟨x, H1, I1, r1, q1⟩ => ?_
  obtain ⟨i, rfl, q⟩ := q1
  obtain ⟨t, rfl⟩ := r1
  exact ⟨some i, H1, I1, .int i t, q⟩
def SlR (X : Cx) (r : V → Option Int → Option Int → Hp → VK → Prop) : Prop :=
  ∀ (pins : List (Addr × Obj)) (s : Shared) (σ : St) (H : Hp) (x : V) (v vl vu : Value) (lo hi : Option Int) (sl : Addr) (Q : VK), Inv X pins σ H s → RelV x v → s.heap.IsSliceOf sl vl vu .none → IsPart vl lo → IsPart vu hi → r x lo hi H Q →
    ∃ T id, typeLookup (.type T) "__getitem__" = pure (some (.builtin id)) ∧ s.TypeIs v T ∧ wpAny (model X.prog X.w) X.A (getItem v (.ref sl)) (EP X pins σ Q) X.xe s
theorem SlR.or {r r' : V → Option Int → Option Int → Hp → VK → Prop} (h : SlR X r) (h' : SlR X r') : SlR X (fun x lo hi H Q => r x lo hi H Q ∨ r' x lo hi H Q) := by
  intro pins s σ H x v vl vu lo hi sl Q I rx hs pl pu q
  rcases q with q | q
  · exact h pins s σ H x v vl vu lo hi sl Q I rx hs pl pu q
  · exact h' pins s σ H x v vl vu lo hi sl Q I rx hs pl pu q
def tSl (r : V → Option Int → Option Int → Hp → VK → Prop) (te : TE) (tl th : TO) : TE := fun σ H Q => te σ H fun x H1 => tl σ H1 fun l H2 => th σ H2 fun u H3 => r x l u H3 Q
theorem pe_slice {r : V → Option Int → Option Int → Hp → VK → Prop} (hr : SlR X r) (he : PE X e te) (hl : PO X lo tl) (hu : PO X hi th) : PE X (.Subscript e (.Slice lo hi none p2) pos) (tSl r te tl th) := by
  intro pins s σ H Q I h
  refine Subscript_ (thn (he pins s σ H _ I h) fun v s1 ⟨x, H1, I1, r1, q1⟩ => ?_)
  refine wpAny_Slice (thn (hl pins s1 σ H1 _ I1 q1) fun vl s2 ⟨l, H2, I2, pl, q2⟩ => thn (hu pins s2 σ H2 _ I2 q2) fun vu s3 ⟨u, H3, I3, pu, q3⟩ => ?_)
  rw [evalPart_none]
  refine wpAny_pure ?_
  have I4 : Inv X pins σ H3 { s3 with heap := s3.heap.push { cls := .type "slice", data := .fields #[vl, vu, .none] } } := I3.kept (t' := s3.toks) fun b ob q => Heap.get?_push_of_some _ q
  obtain ⟨T, id, hT, ht, hg⟩ := hr pins { s3 with heap := s3.heap.push { cls := .type "slice", data := .fields #[vl, vu, .none] } } σ H3 x v vl vu l u s3.heap.objs.size Q I4 r1 (Heap.IsSliceOf.new ..) pl pu q3
  show wpAny (model X.prog X.w) X.A (subscriptTail e (.Slice lo hi none p2) v (.ref s3.heap.objs.size)) (EP X pins σ Q) X.xe { s3 with heap := s3.heap.push { cls := .type "slice", data := .fields #[vl, vu, .none] } }
  exact tail_any (ops := [.ref s3.heap.objs.size, v]) ht hT hg (by with_unfolding_all rfl)
def rCatT (K : PySem.W.Frag) : R2 := fun x y H Q => ∃ a b xs ys, x = .ref a ∧ y = .ref b ∧ SqT K H a xs ∧ SqT K H b ys ∧ xs ≠ [] ∧ xs.length + ys.length ≤ sizeLine ∧
  (ys = [] → Q (.ref a) H) ∧ (ys ≠ [] → ∀ p, H p = none → Q (.ref p) (upd H p (.tup (xs ++ ys))))
theorem Vals.nil_iff {xs : List V} {us : List Value} (r : Vals xs us) : us = [] ↔ xs = [] := by
  cases r with
  | nil => simp
  | cons _ _ => simp
theorem op_catT : OpR X (binaryOp .Add) (rCatT X.K) := by
  intro pins s σ H x y v u Q I rx ry h
  obtain ⟨a, b, xs, ys, rfl, rfl, ha, hb, hx, hz, q1, q2⟩ := h
  cases rx
  cases ry
  obtain ⟨its, r1, p1, _⟩ := I.tuple ha
  obtain ⟨its2, r2, p2, _⟩ := I.tuple hb
  refine HT.cat_tup p1 p2 (fun z => hx (r1.nil_iff.mp z)) (fun z => ⟨.ref a, H, I, rfl, q1 (r2.nil_iff.mp z)⟩) (fun z => ?_) (by rw [← r1.length, ← r2.length]; exact hz)
  refine ⟨.ref s.heap.objs.size, _, I.laid (t' := s.toks) (o := .tup (xs ++ ys)) (fun b ob q => Heap.get?_push_of_some _ q) (Nat.le_refl _) ?_, rfl, q2 (fun w => z (r2.nil_iff.mpr w)) _ (I.hok.fresh (Nat.le_refl _))⟩
  exact ⟨by rw [List.length_append]; exact hz, _, r1.append r2, IsTup.new _ _⟩
end
end L2
namespace L2
open PySem PySem.Spec PyProof.Rows
def ixN (n : Nat) (i : Int) : Option Nat := if 0 ≤ i then (if i < n then some i.toNat else none) else if -(n : Int) ≤ i then some (i + n).toNat else none
def atI {α : Type} (xs : List α) (i : Int) : Option α := (ixN xs.length i).bind fun j => xs[j]?
theorem ixN_seq {n : Nat} {i : Int} {j : Nat} (h : ixN n i = some j) : seqIndex? i n = some j ∧ j < n ∧ -(n : Int) ≤ i ∧ i < n := by
  unfold ixN at h
  by_cases h0 : 0 ≤ i
  · rw [if_pos h0] at h
    by_cases h1 : i < n
    · rw [if_pos h1] at h
      have e : i.toNat = j := Option.some.inj h
      exact ⟨by rw [seqIndex_of h0 h1, e], by omega, by omega, h1⟩
    · rw [if_neg h1] at h; cases h
  · rw [if_neg h0] at h
    by_cases h1 : -(n : Int) ≤ i
    · rw [if_pos h1] at h
      have e : (i + n).toNat = j := Option.some.inj h
      exact ⟨by rw [seqIndex_neg (by omega) h1, e], by omega, h1, by omega⟩
    · rw [if_neg h1] at h; cases h
theorem atI_get {α : Type} {xs : List α} {i : Int} {v : α} (h : atI xs i = some v) : ∃ j, seqIndex? i xs.length = some j ∧ xs[j]? = some v ∧ j < xs.length ∧ -(xs.length : Int) ≤ i ∧ i < xs.length := by
  unfold atI at h
  cases e : ixN xs.length i with
  | none => rw [e] at h; cases h
  | some j =>
    rw [e] at h
    obtain ⟨h1, h2, h3, h4⟩ := ixN_seq e
    exact ⟨j, h1, h, h2, h3, h4⟩
theorem atI_nat {α : Type} {xs : List α} {j : Nat} {v : α} (h : xs[j]? = some v) : atI xs (j : Int) = some v := by
  have hj : j < xs.length := (List.getElem?_eq_some_iff.mp h).1
  have e : ixN xs.length (j : Int) = some j := by
    unfold ixN
    rw [if_pos (by omega), if_pos (by omega)]; simp
  unfold atI; rw [e]; exact h
def PlainIx (b : Expr) : Prop := ∀ o i, subscripted b false o i = operate [o, i] (getItem o i)
def IxR (X : Cx) (r : R2) : Prop :=
  ∀ (value slice : Expr) (pins : List (Addr × Obj)) (s : Shared) (σ : St) (H : Hp) (x y : V) (v u : Value) (Q : VK), Inv X pins σ H s → RelV x v → RelV y u → r x y H Q →
    subscripted slice false v u = operate [v, u] (getItem v u) → wpAny (model X.prog X.w) X.A (subscriptTail value slice v u) (EP X pins σ Q) X.xe s
def MtR (X : Cx) (id : String) (r : V → List V → Hp → VK → Prop) : Prop :=
  ∀ (pins : List (Addr × Obj)) (s : Shared) (σ : St) (H : Hp) (x : V) (xs : List V) (v : Value) (us : List Value) (Q : VK), Inv X pins σ H s → RelV x v → Vals xs us → r x xs H Q →
    wpAny (model X.prog X.w) X.A (call (.builtin id) (v :: us)) (EP X pins σ Q) X.xe s
section
variable {X : Cx} {a b : Expr} {ta tb : TE} {pos : Pos}
theorem IxR.or {r r' : R2} (h : IxR X r) (h' : IxR X r') : IxR X (fun x y H Q => r x y H Q ∨ r' x y H Q) := by
  intro value slice pins s σ H x y v u Q I rx ry q hs
  rcases q with q | q
  · exact h value slice pins s σ H x y v u Q I rx ry q hs
  · exact h' value slice pins s σ H x y v u Q I rx ry q hs
theorem MtR.or {id : String} {r r' : V → List V → Hp → VK → Prop} (h : MtR X id r) (h' : MtR X id r') : MtR X id (fun x xs H Q => r x xs H Q ∨ r' x xs H Q) := by
  intro pins s σ H x xs v us Q I rx rs q
  rcases q with q | q
  · exact h pins s σ H x xs v us Q I rx rs q
  · exact h' pins s σ H x xs v us Q I rx rs q
theorem pe_ix {r : R2} (hr : IxR X r) (ha : PE X a ta) (hb : PE X b tb) (hs : PlainIx b) : PE X (.Subscript a b pos) (tOp r ta tb) := by
  intro pins s σ H Q I h
  exact Subscript_ (binT ha hb I h fun v u s2 x y H2 I2 rx ry q => hr a b pins s2 σ H2 x y v u Q I2 rx ry q (hs _ _))
def rIxL (K : PySem.W.Frag) : R2 := fun x y H Q => ∃ p xs i v, x = .ref p ∧ y = .int i ∧ SqL K H p xs ∧ atI xs i = some v ∧ Q v H
def rIxT (K : PySem.W.Frag) : R2 := fun x y H Q => ∃ p xs i v, x = .ref p ∧ y = .int i ∧ SqT K H p xs ∧ atI xs i = some v ∧ Q v H
def rIxS : R2 := fun x y H Q => ∃ z i c, x = .str z ∧ y = .int i ∧ z.length ≤ sizeLine ∧ atI z.cps.toList i = some c ∧ Q (.str ⟨#[c]⟩) H
theorem ix_list : IxR X (rIxL X.K) := by
  intro value slice pins s σ H x y v u Q I rx ry h hs
  obtain ⟨p, xs, i, z, rfl, rfl, hq, he, q⟩ := h
  cases rx
  obtain ⟨t, rfl⟩ := ry
  obtain ⟨its, r, pl, hz⟩ := I.list hq
  obtain ⟨j, h1, h2, h3, h4, h5⟩ := atI_get he
  obtain ⟨w, ew, rw'⟩ := r.get h2
  have hl := r.length
  have hn := line63
  have fin : EP X pins σ Q w s := ⟨z, H, I, rw', q⟩
  by_cases h0 : 0 ≤ i
  · have hj : i.toNat = j := by
      rw [seqIndex_of h0 h5] at h1
      exact Option.some.inj h1
    exact item_listR pl.isList h0 (by omega) (by rw [hj]; simpa using ew) fin hs
  · have hj : (i + (its.toArray.size : Int)).toNat = j := by
      rw [seqIndex_neg (by omega) h4] at h1
      rw [List.size_toArray, ← hl]
      exact Option.some.inj h1
    exact subscriptTail_builtinR (x := w) pl.isList.typeIs slot_list_getitem.lookup
      (wpAny_getItem_list_neg (Q := fun r s' => r = w ∧ EP X pins σ Q r s') pl.isList (by omega) (by rw [List.size_toArray] <;> omega) (by omega) (by rw [hj]; simpa using ew) ⟨rfl, fin⟩) hs
theorem ix_tup : IxR X (rIxT X.K) := by
  intro value slice pins s σ H x y v u Q I rx ry h hs
  obtain ⟨p, xs, i, z, rfl, rfl, hq, he, q⟩ := h
  cases rx
  obtain ⟨t, rfl⟩ := ry
  obtain ⟨its, r, pl, hz⟩ := I.tuple hq
  obtain ⟨j, h1, h2, h3, h4, h5⟩ := atI_get he
  obtain ⟨w, ew, rw'⟩ := r.get h2
  have hl := r.length
  have hn := line63
  have fin : EP X pins σ Q w s := ⟨z, H, I, rw', q⟩
  exact subscriptTail_builtinR (x := w) pl.typeIs slot_tuple_getitem.lookup
    (getItem_tuple (j := j) (Q := fun r s' => r = w ∧ EP X pins σ Q r s') pl (by omega) (by omega) (by rw [List.size_toArray, ← hl]; exact h1) (by simpa using ew) ⟨rfl, fin⟩) hs
theorem ix_str : IxR X rIxS := by
  intro value slice pins s σ H x y v u Q I rx ry h hs
  obtain ⟨z, i, c, rfl, rfl, hz, he, q⟩ := h
  obtain ⟨t, rfl⟩ := rx
  obtain ⟨t', rfl⟩ := ry
  obtain ⟨j, h1, h2, h3, h4, h5⟩ := atI_get he
  have hl : z.cps.toList.length = z.length := by simp [Str.length]
  rw [hl] at h1 h4 h5
  have hn := line63
  exact tail_any (typeIs_str s z t) slot_str_getitem.lookup (getItem_str (c := c) (by
    have e1 : decide (i < -(2 ^ 63 : Int)) = false := decide_eq_false (by omega)
    have e2 : decide (i ≥ 2 ^ 63) = false := decide_eq_false (by omega)
    rw [e1, e2, Bool.or_false]) (by rw [h1]; simpa using h2) ⟨.str ⟨#[c]⟩, H, I.tok _, ⟨_, rfl⟩, q⟩) hs
theorem Inv.lst {pins : List (Addr × Obj)} {σ : St} {H : Hp} {s : Shared} {p : Addr} {xs : List V} (I : Inv X pins σ H s) (h : H p = some (.lst xs)) :
    ∃ (its : List Value) (n : Nat), Vals xs its ∧ s.heap.get? p = some { cls := .type "list", data := .seq its.toArray n } ∧ xs.length ≤ sizeLine := by
  obtain ⟨z, its, n, r, e⟩ := I.hok p _ h
  exact ⟨its, n, r, e, z⟩
def flatV : V → Bool
  | .non => true
  | .bl _ => true
  | .int _ => true
  | .str _ => true
  | _ => false
def eqV : V → V → Bool
  | .non, .non => true
  | .bl a, .bl b => a == b
  | .bl a, .int b => (if a then 1 else 0) == b
  | .int a, .bl b => a == (if b then 1 else 0)
  | .int a, .int b => a == b
  | .str a, .str b => a == b
  | _, _ => false
theorem eqAt_V {A : Around} {s : Shared} {y x : V} {u v : Value} (ry : RelV y u) (rx : RelV x v) (fy : flatV y = true) (fx : flatV x = true) : SeqAt.EqAt A s u v (eqV y x) := by
  cases y with
  | non =>
    cases ry
    cases x with
    | non => cases rx; exact SeqAt.EqAt.same _
    | bl b => cases rx; exact SeqAt.EqAt.none_bool b
    | int b => obtain ⟨t, rfl⟩ := rx; exact SeqAt.EqAt.none_int b t
    | str b => obtain ⟨t, rfl⟩ := rx; exact SeqAt.EqAt.none_str b t
    | _ => exact absurd (show false = true from fx) Bool.false_ne_true
  | bl a =>
    cases ry
    cases x with
    | non => cases rx; exact SeqAt.EqAt.bool_none a
    | bl b => cases rx; exact SeqAt.EqAt.bool_bool a b
    | int b => obtain ⟨t, rfl⟩ := rx; exact SeqAt.EqAt.bool_int a b t
    | str b => obtain ⟨t, rfl⟩ := rx; exact SeqAt.EqAt.bool_str a b t
    | _ => exact absurd (show false = true from fx) Bool.false_ne_true
  | int a =>
    obtain ⟨t', rfl⟩ := ry
    cases x with
    | non => cases rx; exact SeqAt.EqAt.int_none a t'
    | bl b => cases rx; exact SeqAt.EqAt.int_bool a t' b
    | int b => obtain ⟨t, rfl⟩ := rx; exact SeqAt.EqAt.int_int a t' b t
    | str b => obtain ⟨t, rfl⟩ := rx; exact SeqAt.EqAt.int_str a t' b t
    | _ => exact absurd (show false = true from fx) Bool.false_ne_true
  | str a =>
    obtain ⟨t', rfl⟩ := ry
    cases x with
    | non => cases rx; exact SeqAt.EqAt.str_none a t'
    | bl b => cases rx; exact SeqAt.EqAt.str_bool a t' b
    | int b => obtain ⟨t, rfl⟩ := rx; exact SeqAt.EqAt.str_int a t' b t
    | str b => obtain ⟨t, rfl⟩ := rx; exact SeqAt.EqAt.str_str a t' b t
    | _ => exact absurd (show false = true from fx) Bool.false_ne_true
  | _ => exact absurd (show false = true from fy) Bool.false_ne_true
def eqU (x : V) (u : Value) : Bool := match u with
  | .none => eqV .non x
  | .bool b => eqV (.bl b) x
  | .int i _ => eqV (.int i) x
  | .str z _ => eqV (.str z) x
  | _ => false
theorem eqU_of {x y : V} {u : Value} (r : RelV y u) (f : flatV y = true) : eqU x u = eqV y x := by
  cases y with
  | non => cases r; rfl
  | bl b => cases r; rfl
  | int i => obtain ⟨t, rfl⟩ := r; rfl
  | str z => obtain ⟨t, rfl⟩ := r; rfl
  | _ => exact absurd (show false = true from f) Bool.false_ne_true
theorem any_eqU {x : V} : ∀ {xs : List V} {us : List Value}, Vals xs us → xs.all flatV = true → us.any (eqU x) = xs.any fun y => eqV y x
  | _, _, .nil, _ => rfl
  | y :: xs, u :: us, .cons r t, f => by
    rw [List.all_cons, Bool.and_eq_true] at f
    rw [List.any_cons, List.any_cons, eqU_of r f.1, any_eqU t f.2]
theorem mem_eqAt {A : Around} {s : Shared} {x : V} {v : Value} (rx : RelV x v) (fx : flatV x = true) : ∀ {xs : List V} {us : List Value}, Vals xs us → xs.all flatV = true → ∀ u ∈ us, SeqAt.EqAt A s u v (eqU x u)
  | _, _, .nil, _ => fun u hu => by cases hu
  | y :: xs, u :: us, .cons r t, f => fun u' hu => by
    rw [List.all_cons, Bool.and_eq_true] at f
    rcases List.mem_cons.mp hu with rfl | hu
    · rw [eqU_of r f.1]; exact eqAt_V r rx f.1 fx
    · exact mem_eqAt rx fx t f.2 u' hu
def inV (x : V) (xs : List V) : Bool := xs.any fun y => eqV y x
def rIn (K : PySem.W.Frag) (neg : Bool) : R2 := fun x y H Q => ∃ p xs, y = .ref p ∧ (SqL K H p xs ∨ SqT K H p xs) ∧ flatV x = true ∧ xs.all flatV = true ∧ Q (.bl (if neg then !inV x xs else inV x xs)) H
theorem op_in_seq : OpR X (compareOp .In) (rIn X.K false) := by
  intro pins s σ H x y v u Q I rx ry h
  obtain ⟨p, xs, rfl, hq, fx, fs, q⟩ := h
  cases ry
  rcases hq with hq | hq
  · obtain ⟨its, r, pl, hz⟩ := I.list hq
    refine SeqAt.in_listAt (eqU x) pl.isList (fun w hw => mem_eqAt rx fx r fs w (by simpa using hw)) ⟨.bl _, H, I, rfl, ?_⟩
    rw [show its.toArray.any (eqU x) = its.any (eqU x) by simp, any_eqU r fs]
    exact q
  · obtain ⟨its, r, pl, hz⟩ := I.tuple hq
    refine SeqAt.in_tupleAt (eqU x) pl (fun w hw => mem_eqAt rx fx r fs w (by simpa using hw)) ⟨.bl _, H, I, rfl, ?_⟩
    rw [show its.toArray.any (eqU x) = its.any (eqU x) by simp, any_eqU r fs]
    exact q
theorem call_len_seq : CallR X (.builtin "len") (fun xs H Q => ∃ p ys, xs = [.ref p] ∧ (SqL X.K H p ys ∨ SqT X.K H p ys) ∧ Q (.int ys.length) H) := by
  intro pins s σ H xs us Q I r h
  obtain ⟨p, ys, rfl, hq, q⟩ := h
  obtain ⟨u, rfl, rx⟩ := vals1 r
  cases rx
  have hn := line63
  rcases hq with hq | hq
  · obtain ⟨its, r', pl, hz⟩ := I.list hq
    have hlen := r'.length
    exact Calls.call_len_list pl.isList (by simp only [List.size_toArray] <;> omega) ⟨.int ys.length, H, I.tok _, ⟨s.toks + 1, by rw [List.size_toArray, hlen]⟩, q⟩
  · obtain ⟨its, r', pl, hz⟩ := I.tuple hq
    have hlen := r'.length
    exact len_tuple pl (by simp only [List.size_toArray] <;> omega) ⟨.int ys.length, H, I.tok _, ⟨s.toks + 1, by rw [List.size_toArray, hlen]⟩, q⟩
theorem call_len_str : CallR X (.builtin "len") (fun xs H Q => ∃ z, xs = [.str z] ∧ z.length ≤ sizeLine ∧ Q (.int z.length) H) := by
  intro pins s σ H xs us Q I r h
  obtain ⟨z, rfl, hz, q⟩ := h
  obtain ⟨u, rfl, t, rfl⟩ := vals1 r
  have hn := line63
  exact len_str (by omega) ⟨.int z.length, H, I.tok _, ⟨_, rfl⟩, q⟩
theorem CallR.or {f : Value} {r r' : List V → Hp → VK → Prop} (h : CallR X f r) (h' : CallR X f r') : CallR X f (fun xs H Q => r xs H Q ∨ r' xs H Q) := by
  intro pins s σ H xs us Q I rs q
  rcases q with q | q
  · exact h pins s σ H xs us Q I rs q
  · exact h' pins s σ H xs us Q I rs q
theorem call_list_of : CallR X (.type "list") (fun xs H Q => ∃ p ys, xs = [.ref p] ∧ (SqL X.K H p ys ∨ SqT X.K H p ys) ∧ ∀ l, H l = none → Q (.ref l) (upd H l (.lst ys))) := by
  intro pins s σ H xs us Q I r h
  obtain ⟨p, ys, rfl, hq, q⟩ := h
  obtain ⟨u, rfl, rx⟩ := vals1 r
  cases rx
  have fin : ∀ (its : List Value), Vals ys its → ys.length ≤ sizeLine → ∀ (h' : Heap) (c' : Nat), (∀ b o', s.heap.get? b = some o' → h'.get? b = some o') →
      h'.get? s.heap.objs.size = some { cls := .type "list", dict := none, data := .seq its.toArray c', slots := #[] } → EP X pins σ Q (.ref s.heap.objs.size) { s with heap := h' } := fun its r' hz h' c' kp e =>
    ⟨.ref s.heap.objs.size, _, I.laid (t' := s.toks) kp (Nat.le_refl _) (show ObjOk X.prog X.w _ h' _ (.lst ys) from ⟨hz, its, c', r', e⟩), rfl, q _ (I.hok.fresh (Nat.le_refl _))⟩
  rcases hq with hq | hq
  · obtain ⟨its, r', pl, hz⟩ := I.list hq
    have hlen := r'.length
    obtain ⟨o, ho, hc, n, hd⟩ := pl.isList
    exact call_list_seq p (.inl rfl) ho hc hd (fun h' c' kp e => fin its r' hz h' c' kp e) (by simp only [List.size_toArray] <;> omega)
  · obtain ⟨its, r', pl, hz⟩ := I.tuple hq
    have hlen := r'.length
    obtain ⟨o, ho, hc, n, hd⟩ := pl
    exact call_list_seq p (.inr rfl) ho hc hd (fun h' c' kp e => fin its r' hz h' c' kp e) (by simp only [List.size_toArray] <;> omega)
theorem call_tuple_of : CallR X (.type "tuple") (fun xs H Q => ∃ p ys, xs = [.ref p] ∧ ((SqL X.K H p ys ∧ ∀ l, H l = none → Q (.ref l) (upd H l (.tup ys))) ∨ (SqT X.K H p ys ∧ Q (.ref p) H))) := by
  intro pins s σ H xs us Q I r h
  obtain ⟨p, ys, rfl, h⟩ := h
  obtain ⟨u, rfl, rx⟩ := vals1 r
  cases rx
  rcases h with ⟨hq, q⟩ | ⟨hq, q⟩
  · obtain ⟨its, r', pl, hz⟩ := I.list hq
    have hlen := r'.length
    refine call_tuple_list pl.isList (fun h' kp => ?_) (by simp only [List.size_toArray] <;> omega)
    have I1 : Inv X pins σ H { s with heap := h' } := I.kept (t' := s.toks) kp
    have I2 : Inv X pins σ (upd H h'.objs.size (.tup ys)) { s with heap := h'.push { cls := .type "tuple", data := .seq its.toArray } } :=
      I1.laid (t' := s.toks) (fun b o e => Heap.get?_push_of_some _ e) (Nat.le_refl _) (show ObjOk X.prog X.w _ _ _ (.tup ys) from ⟨hz, its, r', IsTup.new _ _⟩)
    exact ⟨.ref h'.objs.size, _, I2, rfl, q _ (I1.hok.fresh (Nat.le_refl _))⟩
  · obtain ⟨its, r', pl, hz⟩ := I.tuple hq
    exact call_tuple_same pl ⟨.ref p, H, I, rfl, q⟩
def tyV (K : PySem.W.Frag) (T : String) (x : V) (H : Hp) : Prop := match x with
  | .str _ => T = "str"
  | .int _ => T = "int"
  | .ref p => (T = "list" ∧ ∃ xs, SqL K H p xs) ∨ (T = "tuple" ∧ ∃ o, K.lookup p = some o ∧ o.cls = .type "tuple" ∧ o.dict = none) ∨
      (T = "dict" ∧ ((∃ kvs, H p = some (.dK kvs)) ∨ ∃ kvs, H p = some (.dT kvs))) ∨ (T = "set" ∧ ∃ S n, H p = some (.set S n))
  | _ => False
theorem tyV_is {pins : List (Addr × Obj)} {σ : St} {H : Hp} {s : Shared} {T : String} {x : V} {v : Value} (I : Inv X pins σ H s) (r : RelV x v) (ty : tyV X.K T x H) :
    s.TypeIs v T ∧ ∀ a, v = .ref a → ∃ ob, s.heap.get? a = some ob ∧ ob.dict = none := by
  cases x with
  | str z =>
    obtain ⟨t, rfl⟩ := r
    cases (show T = "str" from ty)
    exact ⟨typeIs_str s z t, fun _ e => nomatch e⟩
  | int i =>
    obtain ⟨t, rfl⟩ := r
    cases (show T = "int" from ty)
    exact ⟨typeIs_int s i t, fun _ e => nomatch e⟩
  | ref p =>
    cases r
    rcases ty with ⟨rfl, xs, hq⟩ | ⟨rfl, o, hk, hc, hd⟩ | ⟨rfl, hk⟩ | ⟨rfl, S, n, hk⟩
    · obtain ⟨its, _, pl, _⟩ := I.list hq
      refine ⟨pl.isList.typeIs, fun a e => ?_⟩
      cases e
      obtain ⟨o, n, e, c, hd, _⟩ := pl
      exact ⟨o, e, hd⟩
    · refine ⟨⟨o, I.kIn p o hk, hc⟩, fun a e => ?_⟩
      cases e
      exact ⟨o, I.kIn _ o hk, hd⟩
    · have z : ∃ o, s.heap.get? p = some o ∧ o.ExactDict := by
        rcases hk with ⟨kvs, hk⟩ | ⟨kvs, hk⟩
        · obtain ⟨_, _, _, _, o, _, _, e, ex, _⟩ := I.hok p _ hk
          exact ⟨o, e, ex⟩
        · obtain ⟨_, _, _, _, o, _, _, e, ex, _⟩ := I.hok p _ hk
          exact ⟨o, e, ex⟩
      obtain ⟨o, e, ex⟩ := z
      refine ⟨⟨o, e, ex.1⟩, fun a e2 => ?_⟩
      cases e2
      exact ⟨o, e, ex.2.1⟩
    · obtain ⟨o, _, _, _, e, ex, _⟩ := I.hok p _ hk
      refine ⟨⟨o, e, ex.1⟩, fun a e2 => ?_⟩
      cases e2
      exact ⟨o, e, ex.2.1⟩
  | _ => exact False.elim ty
def tBM0 (K : PySem.W.Frag) (T : String) (r : V → List V → Hp → VK → Prop) (to : TE) : TE := fun σ H Q => to σ H fun x H1 => tyV K T x H1 ∧ r x [] H1 Q
def tBM (K : PySem.W.Frag) (T : String) (r : V → List V → Hp → VK → Prop) (to : TE) (t : TA) : TE := fun σ H Q => to σ H fun x H1 => tyV K T x H1 ∧ t σ H1 fun xs H2 => r x xs H2 Q
variable {o e : Expr} {es : List Expr} {to : TE} {t : TA} {name : Str} {apos cpos : Pos} {T id : String} {r : V → List V → Hp → VK → Prop}
theorem pe_bm0 (pa : PlainAttrs T) (slot : Slot T name id) (hty : typeOf (.builtin id) = pure (.type "method_descriptor")) (hm : MtR X id r) (ho : PE X o to)
    (hbase : attributeBase o name X.env (eval o X.env) = eval o X.env := by rfl) (hline : (apos.endLine == cpos.line) = true := by rfl) : PE X (.Call (.Attribute o name apos) [] [] cpos) (tBM0 X.K T r to) := by
  intro pins s σ H Q I h
  refine wpAny_Call_method0_late hbase hline (thn (ho pins s σ H _ I h) fun v s1 ⟨x, H1, I1, r1, ty, q1⟩ => ?_)
  obtain ⟨h1, h2⟩ := tyV_is I1 r1 ty
  exact ⟨T, id, pa, slot, hty, h1, h2, Calls.callWith_builtin rfl (PySem.evalArgs_none (hm pins s1 σ H1 x [] v [] Q I1 r1 .nil q1))⟩
theorem pe_bm (pa : PlainAttrs T) (slot : Slot T name id) (hty : typeOf (.builtin id) = pure (.type "method_descriptor")) (hm : MtR X id r) (ho : PE X o to) (ha : PA X (e :: es) t)
    (hbase : attributeBase o name X.env (eval o X.env) = eval o X.env := by rfl)
    (hfew : ((backTo cpos (starEach (e :: es) X.env)).all (fun x => !x.1) && (backToKw cpos (keywordEach [] X.env)).all (fun x => x.1.isSome)
      && decide ((e :: es).length + ([] : List Keyword).length + (if ([] : List Keyword).isEmpty then 0 else 1) < 30)) = true := by rfl)
    (hline : (apos.endLine == cpos.line) = true := by rfl) (hs : starEach (e :: es) X.env = (false, eval e X.env) :: starEach es X.env := by rfl) (hplain : (backTo cpos (starEach es X.env)).any (·.1) = false := by rfl) :
    PE X (.Call (.Attribute o name apos) (e :: es) [] cpos) (tBM X.K T r to t) := by
  intro pins s σ H Q I h
  refine wpAny_Call_method_late hbase hfew hline rfl (thn (ho pins s σ H _ I h) fun v s1 ⟨x, H1, I1, r1, ty, q1⟩ => ?_)
  obtain ⟨h1, h2⟩ := tyV_is I1 r1 ty
  refine ⟨T, id, pa, slot, hty, h1, h2, ?_⟩
  have hA := ha cpos pins s1 σ H1 _ I1 q1
  rw [hs] at hA ⊢
  refine Calls.callWith_builtin (by show (false || (backTo cpos (starEach es X.env)).any (·.1)) = false; rw [hplain] <;> rfl) (Calls.evalArgs_plain ?_)
  exact thn hA fun us s2 ⟨vs, H2, I2, r2, q2⟩ => hm pins s2 σ H2 x vs v us Q I2 r1 r2 q2
/- xs.append(e), list.index on a module's tuple .. are MtR facts of 06m -/
end
end L2
namespace L2
open PySem PySem.Spec PyProof.Rows
def MtM (X : Cx) (id : String) (r : V → List V → Hp → VK → Prop) : Prop :=
  ∀ (pins : List (Addr × Obj)) (s : Shared) (σ : St) (H : Hp) (x : V) (xs : List V) (v : Value) (us : List Value) (Q : VK), Inv X pins σ H s → RelV x v → Vals xs us → r x xs H Q →
    wpAny (model X.prog X.w) X.A (call (.builtin id) (v :: us)) (EP X pins σ Q) X.xe s
theorem Vals.one : ∀ {x : V} {us : List Value}, Vals [x] us → ∃ u, us = [u] ∧ RelV x u
  | _, _, .cons r .nil => ⟨_, rfl, r⟩
theorem Vals.two : ∀ {x y : V} {us : List Value}, Vals [x, y] us → ∃ u v, us = [u, v] ∧ RelV x u ∧ RelV y v
  | _, _, _, .cons r (.cons q .nil) => ⟨_, _, rfl, r, q⟩
theorem Vals.zero : ∀ {us : List Value}, Vals [] us → us = []
  | _, .nil => rfl
theorem Vals.eraseIdx : ∀ {xs : List V} {us : List Value} (i : Nat), Vals xs us → Vals (xs.eraseIdx i) (us.eraseIdx i)
  | _, _, _, .nil => .nil
  | _, _, 0, .cons _ t => t
  | _, _, i + 1, .cons r t => .cons r (Vals.eraseIdx i t)
theorem Vals.reverse {xs : List V} {us : List Value} (h : Vals xs us) : Vals xs.reverse us.reverse := by
  induction h with
  | nil => exact .nil
  | cons r t ih => rw [List.reverse_cons, List.reverse_cons]; exact Vals.append ih (.cons r .nil)
section
variable {X : Cx} {pins : List (Addr × Obj)} {σ : St} {H : Hp} {s : Shared} {l b : Addr} {xs ys zs : List V}
theorem Inv.lset {its its' : List Value} {n : Nat} {f : Array Value → Array Value} {t' : Nat} (I : Inv X pins σ H s) (hH : H l = some (.lst xs))
    (e : s.heap.get? l = some { cls := .type "list", data := .seq its.toArray n }) (hf : f its.toArray = its'.toArray) (hv : Vals ys its') (hz : ys.length ≤ sizeLine) :
    Inv X pins σ (upd H l (.lst ys)) { s with heap := s.heap.update l (Obj.mapSeq f), toks := t' } := by
  have q := PySem.IsL.update e f
  rw [hf] at q
  refine I.write (x := l) (e := l) (by rw [hH]; exact trivial) (.inl rfl) (fun b' u hb hu => (Heap.get?_update_other s.heap (Obj.mapSeq f) (Ne.symm hb)).trans hu) ⟨_, q⟩ ?_
  exact ⟨hz, its', _, hv, q⟩
theorem Inv.lnew {its : List Value} {t' : Nat} (I : Inv X pins σ H s) (hv : Vals ys its) (hz : ys.length ≤ sizeLine) :
    Inv X pins σ (upd H s.heap.objs.size (.lst ys)) { s with heap := s.heap.push { cls := .type "list", data := .seq its.toArray }, toks := t' } :=
  I.laid (fun _ _ q => Heap.get?_push_of_some _ q) (Nat.le_refl _) ⟨hz, its, 0, hv, Heap.get?_push_size _ rfl⟩
theorem Inv.fresh (I : Inv X pins σ H s) : H s.heap.objs.size = none := I.hok.fresh (Nat.le_refl _)
theorem Inv.lstM (I : Inv X pins σ H s) (hH : H l = some (.lst xs)) : xs.length ≤ sizeLine ∧ ∃ (its : List Value) (n : Nat), Vals xs its ∧ xs.length = its.length ∧ s.heap.get? l = some { cls := .type "list", data := .seq its.toArray n } := by
  obtain ⟨z, its, n, r, e⟩ := I.hok l _ hH
  exact ⟨z, its, n, r, r.length, e⟩
end
section
variable {X : Cx}
def rAppend : V → List V → Hp → VK → Prop := fun x vs H Q => ∃ l xs y, x = .ref l ∧ vs = [y] ∧ H l = some (.lst xs) ∧ xs.length < sizeLine ∧ Q .non (upd H l (.lst (xs ++ [y])))
theorem mt_append : MtM X "list.append" rAppend := by
  intro pins s σ H x vs v us Q I rx rv h
  obtain ⟨l, xs, y, rfl, rfl, hH, hz, q⟩ := h
  cases rx
  obtain ⟨u, rfl, ru⟩ := rv.one
  obtain ⟨z, its, n, r, hl, e⟩ := I.lstM hH
  refine call_meets F.slot_list_append ⟨_, e, rfl⟩ F.entry_list_append (F.args_list_append_2 _ _) (PySem.list_append l its.toArray n u (by rw [List.size_toArray]; omega)) ⟨e, ?_⟩
  refine ⟨.non, _, I.lset (its' := its ++ [u]) hH e (by simp) (r.append (.cons ru .nil)) ?_, rfl, q⟩
  rw [List.length_append, List.length_singleton]
  omega
def rCat : R2 := fun x y H Q => ∃ l b xs zs, x = .ref l ∧ y = .ref b ∧ H l = some (.lst xs) ∧ H b = some (.lst zs) ∧ xs.length + zs.length ≤ sizeLine ∧ ∀ p, H p = none → Q (.ref p) (upd H p (.lst (xs ++ zs)))
theorem op_cat : OpR X (binaryOp .Add) rCat := by
  intro pins s σ H x y v u Q I rx ry h
  obtain ⟨l, b, xs, zs, rfl, rfl, hH, hB, hz, q⟩ := h
  cases rx
  cases ry
  obtain ⟨z, its, n, r, hl, e⟩ := I.lstM hH
  obtain ⟨z2, its2, n2, r2, hl2, e2⟩ := I.lstM hB
  refine PySem.P.add_list e e2 ?_ (by rw [List.size_toArray, List.size_toArray]; omega)
  have ea : its.toArray ++ its2.toArray = (its ++ its2).toArray := by simp
  rw [ea]
  exact ⟨.ref _, _, I.lnew (t' := s.toks) (r.append r2) (by rw [List.length_append]; omega), rfl, q _ I.fresh⟩
end
section
variable {prog : Program} {w : World} {A : Around} {E : Value → Shared → Prop} {s : Shared}
end
section
variable {X : Cx}
end
end L2
namespace Att
open PySem PySem.W PySem.Calls PyProof.Rows
theorem ints_of_wellAll {P : Params} {h : Heap} : ∀ (ns : List Int) (vs : List Value), WellAll P h vs (ns.map WData.int) → IntsAre vs ns := by
  intro ns
  induction ns with
  | nil =>
    intro vs w
    rw [List.map_nil] at w
    cases w
    exact .nil
  | cons n ns ih =>
    intro vs w
    rw [List.map_cons] at w
    cases w with
    | cons a b =>
      cases a
      exact .cons _ _ (ih _ b)
theorem script_of {l : OpenLaw} {n : Nat} (hn : l.most = some n) {P : Params} {h : Heap} {args : List WData} {vals : List Value}
    (hpre : l.row.toRowW.claim.pre args = true) (hwl : WellAll P h vals args) :
    ∃ a vs ns, vals = [Value.ref a] ∧ args = [WData.list (ns.map WData.int)] ∧ h.get? a = some { cls := .type "list", data := .seq vs.toArray } ∧ IntsAre vs ns ∧ ns.length ≤ n := by
  have hsh : WShape.hasAll [] args [.list .int] = true := (pre_splitW hpre).1
  have hc : l.pre.holds [] { args := args } = true := (pre_splitW hpre).2
  obtain ⟨d, r, rfl, h1, h2⟩ := hasAllW_cons hsh
  obtain rfl := hasAllW_nil h2
  obtain ⟨xs, rfl, h3⟩ := hasW_list h1
  obtain ⟨ns, rfl⟩ := items_int h3
  have hlen : ns.length ≤ n := by
    unfold OpenLaw.pre at hc
    have h4 : (WTm.not (.lt (.lit (.int (n : Int))) (.len (.arg 0)))).holds [] { args := [.list (ns.map .int)] } = true := by
      have h4 := (holds_andW hc).1
      rw [hn] at h4
      exact h4
    have h5 := condW_of h4 (w_not (w_lt w_lit (w_len_list (w_arg rfl))))
    rw [List.length_map] at h5
    refine Nat.le_of_not_lt fun q => ?_
    have q' : (n : Int) < ((ns.length : Nat) : Int) := by omega
    first
      | (rw [decide_eq_true q'] at h5; exact absurd h5 (by decide))
      | (simp at h5; omega)
  cases hwl with
  | cons w1 w2 =>
    cases w2
    cases w1 with
    | list ho hall => exact ⟨_, _, ns, rfl, rfl, ho, ints_of_wellAll ns _ hall, hlen⟩
theorem post_true (l : OpenLaw) (args : List WData) : l.row.toRowW.claim.post args (.bool true) args = true :=
  postW_of (r := l.row.toRowW) (X := (true == true))
    (show WShape.has [] (.bool true) .bool = true by first | rfl | decide | simp [WShape.has, WShape.arms, WShape.armsAll])
    (show (WTm.eq .res (.lit (.bool true))).value [] { args := args, res := some (.bool true), after := args } = some (.bool (true == true)) from w_eq_bool (w_res rfl) w_lit) rfl
theorem attach_call {l : OpenLaw} {n : Nat} {q : Program} {loose : List Str} {XP : (Str → Option Value) → Heap → Prop} {YP : World → Heap → Prop} {d : DefRec}
    (hn : l.most = some n) (hdf : d.params.defaults = [])
    (call : ∀ (w : World) (s₀ s₁ : Shared) (mg mb : Str → Option Value) (fa : Addr) (o : Obj) (pm cd doc : Value) (a : Addr) (vs : List Value) (ns : List Int),
      Ground q loose [] XP w s₀ mg mb s₁.heap → YP w s₁.heap →
      s₁.heap.get? fa = some o → o.data = .func (docDef d.name d.params d.body d.scope pm cd doc) → s₁.heap.CodeRec cd d.name → mg d.name = some (.ref fa) →
      s₁.heap.get? a = some { cls := .type "list", data := .seq vs.toArray } → IntsAre vs ns → ns.length ≤ n → s₁.gens = #[] →
      codeAny (model l.prog w) callerA (.call (.ref fa) ⟨[.ref a], []⟩) (fun r s' => r = .ok (.ret (.bool true)) ∧ OldK s₁.heap s'.heap ∧ s'.os = s₁.os ∧ AllBare s'.gens) s₁) :
    WalkO q loose XP YP l.row.toRowW d [] (fun f vs => PySem.call f vs) := by
  intro w s₀ s₁ mg mb G Y fa o pm cd doc dV kV ho hd hcd hD hmg hg args vals as hpre hlay hrd hwl hlo
  obtain rfl : dV = .none := Dflts.none hD hdf
  obtain rfl : kV = .none := Dflts.noKw hD
  obtain ⟨a, vs, ns, rfl, rfl, hobj, hints, hlen⟩ := script_of hn hpre hwl
  refine enter_call (codeAny_mono (call w s₀ s₁ mg mb fa o pm cd doc a vs ns G Y ho (fd_plain hd) hcd hmg hobj hints hlen hg) fun r s' hq => ?_)
  obtain ⟨rfl, h2, h3, h4⟩ := hq
  exact ⟨.inl ⟨.bool true, .bool true, [], rfl, fun _ => rfl, .bool true, post_true l _, fun _ => ⟨List.Pairwise.nil, fun _ hm => (nomatch hm)⟩⟩, h2, h3, h4⟩
section
variable {prog : Program} {w : World} {A : Around} {E : Value → Shared → Prop} {s : Shared} {K : Frag}
def ledger (h : Heap) (L d : Addr) : List (Addr × Obj) := (List.range h.objs.size).filterMap fun a => if a = L ∨ a = d then none else (h.get? a).map fun o => (a, o)
end
end Att
namespace L2
open PySem PySem.Spec PyProof.Rows
theorem vals_ints : ∀ {vs : List Value} {ns : List Int}, IntsAre vs ns → Vals (ns.map V.int) vs
  | _, _, .nil => .nil
  | _, _, .cons n t h => .cons ⟨t, rfl⟩ (vals_ints h)
def Only (H : Hp) : Prop := ∀ b, H b = none ∨ ∃ o xs, H b = some (.frz o (.lst xs))
theorem law_call {P : Program} {w : World} {K : PySem.W.Frag} {mg mb : Str → Option Value} {CX : CXT} {k : Nat} {fa a : Addr} {fd : FuncData} {x : Str} {sp : Sp} {s₁ : Shared} {vs : List Value} {ns : List Int}
    (KX : K.In s₁.heap) (hns : s₁.heap.Ns mainGlobals mg) (hb : s₁.heap.Ns builtinsNs mb) (hbb : ∀ x : Str, x ≠ "__name__" → mb x = bootBuiltins x) (hlim : s₁.heap.NoLimit) (hg : s₁.gens = #[])
    (ha : s₁.heap.get? a = some { cls := .type "list", data := .seq vs.toArray }) (hi : IntsAre vs ns) (hl : ns.length ≤ sizeLine) (hr : Room k callerA)
    (F : ∀ base : Heap, K.In base → base.Ns mainGlobals mg → FnOk P w K mg base CX k fa fd [x] sp) (hbind : ∀ (s : Shared) (u : Value), BindsTo s fd ⟨[u], []⟩ [(x, u)])
    (hsp : ∀ H : Hp, Only H → SqL K H a (ns.map V.int) → sp [.ref a] H (fun v _ => v = .bl true) fun _ _ _ => False)
    (hCX : ∀ H e s', CX [] H s₁ (fun _ _ _ => False) e s' → False) :
    codeAny (model P w) callerA (.call (.ref fa) ⟨[.ref a], []⟩) (fun r s' => r = .ok (.ret (.bool true)) ∧ OldK s₁.heap s'.heap ∧ s'.os = s₁.os ∧ AllBare s'.gens) s₁ := by
  have rv := vals_ints hi
  have lenV := hi.length
  have core : ∀ H : Hp, Only H → SqL K H a (ns.map V.int) → HOk P w H s₁.heap → (∀ b, H b ≠ none → b = a) → (H a ≠ none → K.lookup a = none) →
      codeAny (model P w) callerA (.call (.ref fa) ⟨[.ref a], []⟩) (fun r s' => r = .ok (.ret (.bool true)) ∧ OldK s₁.heap s'.heap ∧ s'.os = s₁.os ∧ AllBare s'.gens) s₁ := by
    intro H hO hS hok hA hK
    have base_of : ∀ {b : Addr} {o : Obj}, s₁.heap.get? b = some o → H b = none → (hidT s₁.heap H).get? b = some o := fun e n => hidT_get e n
    have noA : ∀ {b : Addr} {o : Obj} {es : Array DictEntry} {ep : Nat}, s₁.heap.get? b = some o → o.data = .dict es ep → H b = none := fun {b o es ep} e d => by
      cases q : H b with
      | none => rfl
      | some u =>
        have e' : b = a := hA b (by rw [q]; simp)
        subst e'
        rw [ha] at e; cases e
        have d' : Data.seq vs.toArray _ = Data.dict es ep := d
        cases d'
    have nsK : ∀ {b : Addr} {m : Str → Option Value}, s₁.heap.Ns b m → (hidT s₁.heap H).Ns b m := fun {b m} ⟨o, es, ep, e, d, r⟩ => ⟨o, es, ep, base_of e (noA e d), d, r⟩
    have hKb : K.In (hidT s₁.heap H) := fun b o e => base_of (KX b o e) (by
      cases q : H b with
      | none => rfl
      | some u =>
        have e' : b = a := hA b (by rw [q]; simp)
        subst e'
        rw [hK (by rw [q]; simp)] at e; cases e)
    have hM : Mod K mg (hidT s₁.heap H) := ⟨hKb, nsK hns, ⟨mb, nsK hb, hbb⟩, let ⟨mc, h1, h2⟩ := hlim; ⟨mc, nsK h1, h2⟩⟩
    have e0 : Env0 P w K mg (hidT s₁.heap H) callerA [] s₁ H := ⟨rfl, hM, fun b o e => of_hidT e, Nat.le_of_eq (hidT_size _ _), trivial, fun b hb => absurd (show b ∈ ([] : List Addr) from hb) (by simp), hok, .of_eq hg⟩
    refine codeAny_mono ((F _ hKb (nsK hns)).run callerA [] s₁ H ⟨[.ref a], []⟩ [.ref a] [.ref a] _ _ hr e0 (hbind s₁ (.ref a)) (.cons rfl .nil) (hsp H hO hS)) fun r s' h => ?_
    cases r with
    | error e => exact (hCX H e s' h).elim
    | ok fl =>
      cases fl with
      | next => exact False.elim h
      | brk => exact False.elim h
      | cont => exact False.elim h
      | ret u =>
        obtain ⟨v, H', os, bare, un, hok', r', q⟩ := h
        have q' : v = .bl true := q
        subst q'
        obtain rfl : u = Value.bool true := r'
        refine ⟨rfl, OldK.of_keep fun b o e => ?_, os, bare⟩
        cases q : H b with
        | none => exact un.keep b o e q (by intro z; exact absurd (show b ∈ ([] : List Addr) from z) (by simp)) (by simp)
        | some u =>
          rcases hO b with z | ⟨ob, xs, z⟩
          · rw [q] at z; cases z
          · have z2 := un.frzs b ob _ z
            obtain ⟨e1, _⟩ := hok b _ z
            obtain ⟨e2, _⟩ := hok' b _ z2
            rw [e] at e1; cases e1
            exact e2
  cases hk : K.lookup a with
  | some o =>
    have e := KX a o hk
    rw [ha] at e
    cases e
    refine core (fun _ => none) (fun _ => .inl rfl) (.inr ⟨_, vs.toArray, _, hk, rfl, rfl, rfl, by rw [List.size_toArray, lenV]; exact hl, by simpa using rv⟩) (fun b u z => by have z' : (none : Option HO) = some u := z; cases z') (fun b z => absurd rfl z) fun z => absurd rfl z
  | none =>
    refine core (fun b => if b = a then some (.frz { cls := .type "list", data := .seq vs.toArray } (.lst (ns.map V.int))) else none) (fun b => ?_) (.inl (.inr ⟨{ cls := .type "list", data := .seq vs.toArray }, if_pos rfl⟩)) (fun b u z => ?_) (fun b z => ?_) fun _ => hk
    · by_cases hb : b = a
      · exact .inr ⟨_, _, if_pos hb⟩
      · exact .inl (if_neg hb)
    · by_cases hb : b = a
      · have z' := (if_pos hb).symm.trans z
        cases z'
        subst hb
        exact ⟨ha, by rw [List.length_map]; exact hl, vs, _, rv, ha⟩
      · have z' := (if_neg hb).symm.trans z
        cases z'
    · by_cases hb : b = a
      · exact hb
      · exact absurd (if_neg hb) z
end L2
namespace L2
open PySem PySem.Spec PyProof.Rows
abbrev KOf {K : PySem.W.Frag} {h : Heap} (_ : K.In h) : PySem.W.Frag := K
theorem walk_of {l : PySem.W.OpenLaw} {n k : Nat} {q : Program} {loose : List Str} {XP : (Str → Option Value) → Heap → Prop} {YP : World → Heap → Prop} {d : DefRec} {K : Params → PySem.W.Frag} {CX : World → CXT} {sp : World → Sp} {x : Str}
    (hn : l.most = some n) (hn2 : n ≤ sizeLine) (hdf : d.params.defaults = []) (hr : Room k callerA)
    (hY : ∀ (w : World) (h : Heap), YP w h → (K w.params).In h)
    (F : ∀ (w : World) (mg : Str → Option Value) (fa : Addr) (h : Heap), (K w.params).In h → h.Ns mainGlobals mg → mg d.name = some (.ref fa) →
      ∃ fd : FuncData, (∀ (s : Shared) (u : Value), BindsTo s fd ⟨[u], []⟩ [(x, u)]) ∧
        ∀ base : Heap, (K w.params).In base → base.Ns mainGlobals mg → FnOk l.prog w (K w.params) mg base (CX w) k fa fd [x] (sp w))
    (hsp : ∀ (w : World) (H : Hp) (a : Addr) (ns : List Int), ns.length ≤ n → Only H → SqL (K w.params) H a (ns.map V.int) → sp w [.ref a] H (fun v _ => v = .bl true) fun _ _ _ => False)
    (hCX : ∀ (w : World) (H : Hp) (s : Shared) (e : Value) (s' : Shared), CX w [] H s (fun _ _ _ => False) e s' → False) :
    PySem.W.WalkO q loose XP YP l.row.toRowW d [] (fun f vs => PySem.call f vs) := by
  refine Att.attach_call hn hdf fun w s₀ s₁ mg mb fa o pm cd doc a vs ns G Y ho hd hcd hmg hobj hints hlen hg => ?_
  have KX := hY w _ Y
  obtain ⟨fd, hb, hF⟩ := F w mg fa _ KX G.T.g hmg
  exact law_call KX G.T.g G.T.b G.T.builtins G.T.nolimit hg hobj hints (Nat.le_trans hlen hn2) hr hF hb (fun H hO hS => hsp w H a ns hlen hO hS) fun H e s' => hCX w H s₁ e s'
end L2
/- THE LAST THEOREM (shape; LID, My.* are yours):
   My.Adr: a structure of the addresses that your layer names (classes, functions); My.Txt K t: a structure (Prop) of the equations over K;
   My.txt_mk : {K} {implicit addresses ..} (e1 : nsIn K mainGlobals "law" = some (some (.ref f))) (e2 : K.lookup f = some ⟨oc, od, .func (fnOf "law" "law" params body scope dV kV doc pm an cdv ct), sl⟩) (e3 : codeIn K cdv "law" = true) .. : ∃ t, My.Txt K t
set_option maxRecDepth 100000 in
set_option maxHeartbeats 0 in
theorem PySem.Challenge.cw_LID_holds : PySem.Challenge.rw_LID.Holds := by
  w_on; o_law; k_head; (case hw => w_witness2)
  k_fill
  refine L2.walk_of (l := PySem.Challenge.rw_LID) (n := 63) (k := 40) (x := "script") (CX := fun w => ..) (sp := fun _ => My.sp_law) rfl (by decide) rfl ⟨rfl, by decide, by decide⟩ (fun w h Y => PySem.W.kIn_of Y) ?F ?S ?C
  case F =>
    intro w mg fa h KX G hmg
    have T : ∃ t, My.Txt (L2.KOf KX) t := by
      dsimp only [L2.KOf]                          -- K must stand as «<heap const> w.params» for k_is
      refine' My.txt_mk ?e1 ?e2 ?e3 ..
      (case e1 => PySem.W.k_is)                    -- in the order: a name -> its address -> its object -> its parts
      (case e2 => PySem.W.k_is)
      ..
    obtain ⟨t, T⟩ := T
    have e0 := hmg.symm.trans (PySem.W.mg_of KX G T.law)
    cases e0                                       -- fa is the law's own address
    exact ⟨_, fun s u => .of_eq rfl, fun base kb nb => My.law_fn T kb nb⟩     -- if «.of_eq rfl» comes too early: refine' ⟨_, ?b, fun base kb nb => My.law_fn T kb nb⟩; exact fun s u => .of_eq rfl
  case S => exact fun w H a ns hl hO hS => ..
  case C => exact ..
(the tactic k_is has no namespace: write k_is) -/
namespace L2
open PySem PySem.Spec PyProof.Rows
def defArgs (s : Stmt) : Arguments := match s with
  | .FunctionDef _ a _ _ _ _ _ _ _ _ => a
  | _ => { posonlyargs := [], args := [], vararg := none, kwonlyargs := [], kw_defaults := [], kwarg := none, defaults := [] }
def defBody (s : Stmt) : List Stmt := match s with
  | .FunctionDef _ _ b _ _ _ _ _ _ _ => b
  | _ => []
def defScope (s : Stmt) : Scope := match s with
  | .FunctionDef _ _ _ _ _ _ sc _ _ _ => sc
  | _ => { kind := .function, names := [], isGenerator := false, isCoroutine := false }
abbrev CX0 : CXT := fun _ _ _ _ _ _ => False
abbrev E0 : XK := fun _ _ _ => False
theorem pass0 {X : Cx} : Passes CX0 X E0 := fun _ _ _ _ _ _ _ h => h.elim
structure Fun (K : PySem.W.Frag) (x qual : Str) (st : Stmt) (f : Addr) (fd : FuncData) : Prop where
  ex : ∃ (oc : Value) (od : Option Addr) (kV doc pm : Value) (an : Option Addr) (cdv ct : Value) (osl : Array (Option Value)),
    fd = PySem.W.fnOf x qual (defArgs st) (defBody st) (defScope st) .none kV doc pm an cdv ct ∧ K.lookup f = some ⟨oc, od, .func fd, osl⟩ ∧ PySem.W.codeIn K cdv qual = true
  kp : PySem.W.keepIn K (.ref f) = true
section
variable {P : Program} {w : World} {K : PySem.W.Frag} {mg : Str → Option Value} {base : Heap}
theorem Fun.ok {x qual : Str} {st : Stmt} {f : Addr} {fd : FuncData} {N ps : List Str} {k : Nat} {sp : Sp} (F : Fun K x qual st f fd) (S : FnScope N ps (defScope st)) (len : ∀ vs H Q E, sp vs H Q E → vs.length = ps.length)
    (hbody : ∀ (cdv : Value) (A : Around) (outer : List Env) (s : Shared) (H : Hp) (vs : List V) (Q : VK) (E : XK), Room k (A.deeper (envOfC qual (defScope st) s.heap.objs.size f cdv)) → sp vs H Q E →
      ∃ t, PSs (cxOf CX0 P w K mg base N qual (defScope st) f cdv A outer s H E).nox (defBody st) t ∧ t { nx := fun _ H' => Q .non H', rt := Q } (start N vs) H) : FnOk P w K mg base CX0 (k + 1) f fd ps sp := by
  obtain ⟨oc, od, kV, doc, pm, an, cdv, ct, osl, rfl, lk, hcd⟩ := F.ex
  refine fn_of lk hcd S len fun A outer s H vs Q E hr hsp => ?_
  obtain ⟨t, h, q⟩ := hbody cdv A outer s H vs Q E hr hsp
  exact ⟨t, h.nox, q⟩
theorem Fun.binds {x qual : Str} {st : Stmt} {f : Addr} {fd : FuncData} {ps : List Str} (F : Fun K x qual st f fd)
    (h : ∀ (kV doc pm : Value) (an : Option Addr) (cdv ct : Value) (us : List Value), us.length = ps.length → bindArgs (PySem.W.fnOf x qual (defArgs st) (defBody st) (defScope st) .none kV doc pm an cdv ct) ⟨us, []⟩ = pure (ps.zip us)) : Binds K fd ps [] := by
  obtain ⟨oc, od, kV, doc, pm, an, cdv, ct, osl, rfl, lk, hcd⟩ := F.ex
  exact .all (h kV doc pm an cdv ct)
theorem fun_mk {x qual : Str} {st : Stmt} {f : Addr} {oc : Value} {od an : Option Addr} {osl : Array (Option Value)} {kV doc pm cdv ct : Value} (l : K.lookup f = some ⟨oc, od, .func (PySem.W.fnOf x qual (defArgs st) (defBody st) (defScope st) .none kV doc pm an cdv ct), osl⟩)
    (c : PySem.W.codeIn K cdv qual = true) (k : PySem.W.keepIn K (.ref f) = true) : Fun K x qual st f (PySem.W.fnOf x qual (defArgs st) (defBody st) (defScope st) .none kV doc pm an cdv ct) := ⟨⟨oc, od, kV, doc, pm, an, cdv, ct, osl, rfl, l, c⟩, k⟩
end
theorem small1000 {n : Nat} (h : n ≤ 1000) : n < sizeLine := Nat.lt_of_le_of_lt h (by decide)
section
variable {X : Cx}
theorem pv (i : Nat) {x : Str} {pos : Pos} (hN : X.N[i]? = some x := by rfl) (hv : Vis X.env.scope x := by first | exact Or.inl rfl | exact Or.inr (Or.inl rfl) | exact Or.inr (Or.inr rfl)) (hd : (x == ("__debug__" : Str)) = false := by decide)
    (hcd : (x == ("__classdict__" : Str)) = false := by decide) : PE X (.Name x pos) (tVar i) := pe_var hN hv hd hcd
end
theorem iteF {A B : Prop} (h : B) : if false = true then A else B := by
  rw [if_neg Bool.false_ne_true]
  exact h
theorem iteT {A B : Prop} (h : A) : if true = true then A else B := by
  rw [if_pos rfl]
  exact h
theorem ite2 {c A B : Prop} [Decidable c] (h1 : c → A) (h2 : ¬ c → B) : if c then A else B := by
  by_cases h : c
  · rw [if_pos h]
    exact h1 h
  · rw [if_neg h]
    exact h2 h
def Same (H H' : Hp) : Prop := ∀ b o, H b = some o → H' b = some o
theorem Same.refl (H : Hp) : Same H H := fun _ _ h => h
theorem Same.trans {H H1 H2 : Hp} (a : Same H H1) (b : Same H1 H2) : Same H H2 := fun c o h => b c o (a c o h)
theorem Same.free {H H' : Hp} (e : Same H H') {l : Addr} (h : H' l = Option.none) : H l = Option.none := by
  cases q : H l with
  | none => rfl
  | some o =>
    rw [e l o q] at h
    cases h
theorem Same.seq {K : PySem.W.Frag} {H H' : Hp} {a : Addr} {xs : List V} (e : Same H H') (h : SqL K H a xs) : SqL K H' a xs := by
  rcases h with (h | ⟨o, h⟩) | h
  · exact .inl (.inl (e _ _ h))
  · exact .inl (.inr ⟨o, e _ _ h⟩)
  · exact .inr h
end L2
set_option linter.all false
namespace L2
open PySem PySem.Spec PyProof.Rows
section
variable {κ : Type} [DecidableEq κ]
def valV (kvs : List (κ × V)) (k : κ) : Option V := (kvs.find? fun kv => decide (kv.1 = k)).map (·.2)
def putK (kvs : List (κ × V)) (k : κ) (v : V) : List (κ × V) :=
  if (kvs.any fun kv => decide (kv.1 = k)) = true then kvs.map (fun kv => if kv.1 = k then (kv.1, v) else kv) else kvs ++ [(k, v)]
def dropK (kvs : List (κ × V)) (k : κ) : List (κ × V) := kvs.filter fun kv => decide (kv.1 ≠ k)
theorem valV_pos {p : κ × V} {r : List (κ × V)} {k : κ} (e : p.1 = k) : valV (p :: r) k = some p.2 := by simp [valV, List.find?_cons, e]
theorem valV_neg {p : κ × V} {r : List (κ × V)} {k : κ} (e : ¬ p.1 = k) : valV (p :: r) k = valV r k := by simp [valV, List.find?_cons, e]
theorem valV_any (k : κ) : ∀ kvs : List (κ × V), (kvs.any fun kv => decide (kv.1 = k)) = (valV kvs k).isSome
  | [] => rfl
  | p :: r => by
    rw [List.any_cons]
    by_cases e : p.1 = k
    · simp only [valV_pos e, decide_eq_true e, Bool.true_or, Option.isSome_some]
    · rw [valV_neg e, decide_eq_false e, Bool.false_or]; exact valV_any k r
theorem RelO.isSome_eq {o : Option V} {u : Option Value} (r : RelO o u) : o.isSome = u.isSome := by
  cases o with
  | none => cases u with
    | none => rfl
    | some _ => exact (show False from r).elim
  | some _ => cases u with
    | none => exact (show False from r).elim
    | some _ => rfl
theorem RelO.getD {o : Option V} {u : Option Value} {d : V} {d' : Value} (r : RelO o u) (rd : RelV d d') : RelV (o.getD d) (u.getD d') := by
  cases o with
  | none => cases u with
    | none => exact rd
    | some _ => exact (show False from r).elim
  | some _ => cases u with
    | none => exact (show False from r).elim
    | some _ => exact r
theorem KV.val {kvs : List (κ × V)} {vs : List (κ × Value)} (r : KV kvs vs) (k : κ) : RelO (valV kvs k) (valueAt vs k) := by
  unfold KV at r
  induction r with
  | nil => exact True.intro
  | @cons p q ps qs h t ih =>
    obtain ⟨h1, h2⟩ := h
    by_cases e : p.1 = k
    · have e' : q.1 = k := h1.symm.trans e
      have b : valueAt (q :: qs) k = some q.2 := by simp [valueAt, List.find?_cons, e']
      rw [valV_pos e, b]; exact h2
    · have e' : ¬ q.1 = k := fun z => e (h1.trans z)
      have b : valueAt (q :: qs) k = valueAt qs k := by simp [valueAt, List.find?_cons, e']
      rw [valV_neg e, b]; exact ih
theorem KV.any {kvs : List (κ × V)} {vs : List (κ × Value)} (r : KV kvs vs) (k : κ) : (kvs.any fun kv => decide (kv.1 = k)) = vs.any fun kv => decide (kv.1 = k) := by
  unfold KV at r
  induction r with
  | nil => rfl
  | cons h t ih => rw [List.any_cons, List.any_cons, ih, h.1]
theorem KV.repl {kvs : List (κ × V)} {vs : List (κ × Value)} (r : KV kvs vs) (k : κ) {y : V} {u : Value} (ry : RelV y u) :
    KV (kvs.map fun kv => if kv.1 = k then (kv.1, y) else kv) (vs.map fun kv => if kv.1 = k then (kv.1, u) else kv) := by
  unfold KV at r ⊢
  induction r with
  | nil => exact .nil
  | @cons p q ps qs h t ih =>
    rw [List.map_cons, List.map_cons]
    refine .cons ?_ ih
    obtain ⟨h1, h2⟩ := h
    by_cases e : p.1 = k
    · rw [if_pos e, if_pos (h1.symm.trans e)]; exact ⟨h1, ry⟩
    · rw [if_neg e, if_neg (fun z => e (h1.trans z))]; exact ⟨h1, h2⟩
theorem KV.put {kvs : List (κ × V)} {vs : List (κ × Value)} (r : KV kvs vs) (k : κ) {y : V} {u : Value} (ry : RelV y u) : KV (putK kvs k y) (stored vs k u) := by
  unfold putK stored
  rw [r.any k]
  by_cases e : (vs.any fun kv => decide (kv.1 = k)) = true
  · rw [if_pos e, if_pos e]; exact r.repl k ry
  · rw [if_neg e, if_neg e]; exact Paired.snoc r ⟨rfl, ry⟩
theorem KV.drop {kvs : List (κ × V)} {vs : List (κ × Value)} (r : KV kvs vs) (k : κ) : KV (dropK kvs k) (without vs k) := by
  unfold KV at r ⊢
  unfold dropK without
  induction r with
  | nil => exact .nil
  | @cons p q ps qs h t ih =>
    obtain ⟨h1, h2⟩ := h
    rw [List.filter_cons, List.filter_cons]
    by_cases e : p.1 = k
    · have a : ¬ decide (p.1 ≠ k) = true := by simp [e]
      have b : ¬ decide (q.1 ≠ k) = true := by simp [h1.symm.trans e]
      rw [if_neg a, if_neg b]; exact ih
    · have e' : ¬ q.1 = k := fun z => e (h1.trans z)
      have a : decide (p.1 ≠ k) = true := by simp [e]
      have b : decide (q.1 ≠ k) = true := by simp [e']
      rw [if_pos a, if_pos b]; exact .cons ⟨h1, h2⟩ ih
theorem KV.keys {kvs : List (κ × V)} {vs : List (κ × Value)} (r : KV kvs vs) : kvs.map (·.1) = vs.map (·.1) := by
  unfold KV at r
  induction r with
  | nil => rfl
  | cons h t ih => rw [List.map_cons, List.map_cons, ih, h.1]
theorem KV.length {kvs : List (κ × V)} {vs : List (κ × Value)} (r : KV kvs vs) : kvs.length = vs.length := Paired.length r
end
abbrev KT (H : Hp) : List (List Key × V) → List (List Key × Addr × Value) → Prop := Paired fun p q => p.1 = q.1 ∧ H q.2.1 = some (.tup (p.1.map kV)) ∧ RelV p.2 q.2.2
theorem KT.val {H : Hp} {kvs : List (List Key × V)} {xs : List (List Key × Addr × Value)} (r : KT H kvs xs) (k : List Key) : RelO (valV kvs k) ((atKey xs k).map (·.2)) := by
  induction r with
  | nil => exact True.intro
  | @cons p q ps qs h t ih =>
    obtain ⟨h1, _, h2⟩ := h
    by_cases e : p.1 = k
    · have e' : q.1 = k := h1.symm.trans e
      have b : atKey (q :: qs) k = some q.2 := by simp [atKey, List.find?_cons, e']
      rw [valV_pos e, b]; exact h2
    · have e' : ¬ q.1 = k := fun z => e (h1.trans z)
      have b : atKey (q :: qs) k = atKey qs k := by simp [atKey, List.find?_cons, e']
      rw [valV_neg e, b]; exact ih
theorem KT.repl {H : Hp} {kvs : List (List Key × V)} {xs : List (List Key × Addr × Value)} (r : KT H kvs xs) (k : List Key) {y : V} {u : Value} (ry : RelV y u) :
    KT H (kvs.map fun kv => if kv.1 = k then (kv.1, y) else kv) (xs.map (putAt k u)) := by
  induction r with
  | nil => exact .nil
  | @cons p q ps qs h t ih =>
    rw [List.map_cons, List.map_cons]
    refine .cons ?_ ih
    obtain ⟨h1, h2, h3⟩ := h
    unfold putAt
    by_cases e : p.1 = k
    · rw [if_pos e, if_pos (h1.symm.trans e)]; exact ⟨h1, h2, ry⟩
    · rw [if_neg e, if_neg (fun z => e (h1.trans z))]; exact ⟨h1, h2, h3⟩
theorem KT.put {H : Hp} {kvs : List (List Key × V)} {xs : List (List Key × Addr × Value)} (r : KT H kvs xs) (k : List Key) {b : Addr} {y : V} {u : Value} (hb : H b = some (.tup (k.map kV))) (ry : RelV y u) :
    KT H (putK kvs k y) (storedH xs k b u) := by
  have e : (kvs.any fun kv => decide (kv.1 = k)) = (atKey xs k).isSome := by
    rw [valV_any, (r.val k).isSome_eq, Option.isSome_map]
  unfold putK storedH
  rw [e]
  by_cases q : (atKey xs k).isSome = true
  · rw [if_pos q, if_pos q]; exact r.repl k ry
  · rw [if_neg q, if_neg q]; exact Paired.snoc r ⟨rfl, hb, ry⟩
theorem KT.keeps {H H' : Hp} {kvs : List (List Key × V)} {xs : List (List Key × Addr × Value)} (r : KT H kvs xs) (ht : ∀ b ys, H b = some (.tup ys) → H' b = some (.tup ys)) : KT H' kvs xs :=
  Paired.mapP r fun _ _ z => ⟨z.1, ht _ _ z.2.1, z.2.2⟩
section
variable {P : Program} {w : World} {H : Hp} {h : Heap} {a : Addr}
end
def DGet (H : Hp) (a : Addr) (y : V) (r : Option V) : Prop :=
  (∃ kvs k, Rd H a (.dK kvs) ∧ y = kV k ∧ r = valV kvs k) ∨ ∃ kvs k b, Rd H a (.dT kvs) ∧ y = .ref b ∧ H b = some (.tup (k.map kV)) ∧ r = valV kvs k
def DPut (H : Hp) (a : Addr) (y v : V) (H' : Hp) : Prop :=
  (∃ kvs k, H a = some (.dK kvs) ∧ y = kV k ∧ kvs.length < sizeLine ∧ H' = upd H a (.dK (putK kvs k v))) ∨
  ∃ kvs k b, H a = some (.dT kvs) ∧ y = .ref b ∧ H b = some (.tup (k.map kV)) ∧ kvs.length < sizeLine ∧ H' = upd H a (.dT (putK kvs k v))
theorem DGet.k {H : Hp} {a : Addr} {kvs : List (Key × V)} {k : Key} (e : H a = some (.dK kvs)) : DGet H a (kV k) (valV kvs k) := .inl ⟨kvs, k, .inl e, rfl, rfl⟩
theorem DGet.t {H : Hp} {a b : Addr} {kvs : List (List Key × V)} {k : List Key} (e : H a = some (.dT kvs)) (eb : H b = some (.tup (k.map kV))) : DGet H a (.ref b) (valV kvs k) := .inr ⟨kvs, k, b, .inl e, rfl, eb, rfl⟩
theorem DPut.k {H : Hp} {a : Addr} {kvs : List (Key × V)} {k : Key} {v : V} (e : H a = some (.dK kvs)) (hl : kvs.length < sizeLine) : DPut H a (kV k) v (upd H a (.dK (putK kvs k v))) := .inl ⟨kvs, k, e, rfl, hl, rfl⟩
theorem DPut.t {H : Hp} {a b : Addr} {kvs : List (List Key × V)} {k : List Key} {v : V} (e : H a = some (.dT kvs)) (eb : H b = some (.tup (k.map kV))) (hl : kvs.length < sizeLine) :
    DPut H a (.ref b) v (upd H a (.dT (putK kvs k v))) := .inr ⟨kvs, k, b, e, rfl, eb, hl, rfl⟩
section
variable {X : Cx} {pins : List (Addr × Obj)} {σ : St} {H : Hp} {s : Shared} {a : Addr} {y v : V} {u r : Value} {o : Option V} {A : Around} {E : Value → Shared → Prop}
theorem Inv.big (I : Inv X pins σ H s) : sysModules < s.heap.objs.size := by
  have h : mainGlobals < s.heap.objs.size := (I.mod.glob.keeps I.bk).lt
  exact Nat.lt_trans (by decide) h
end
section
variable {X : Cx} {pins : List (Addr × Obj)} {σ : St} {H : Hp} {s : Shared} {a : Addr} {kvs : List (Key × V)} {k : Key} {u : Value} {A : Around} {E : Value → Shared → Prop}
end
section
variable {X : Cx} {o i e value : Expr} {pos pos' tpos : Pos} {td ty tv : TE}
end
section
variable {X : Cx} {pos : Pos}
end
def mergeK (kvs more : List (Key × V)) : List (Key × V) := more.foldl (fun acc kv => putK acc kv.1 kv.2) kvs
theorem KV.merge : ∀ {more : List (Key × V)} {rs : List (Key × Value)} {kvs : List (Key × V)} {vs : List (Key × Value)}, KV more rs → KV kvs vs → KV (mergeK kvs more) (merged vs rs) := by
  intro more rs kvs vs r
  unfold KV at r
  induction r generalizing kvs vs with
  | nil => intro q; exact q
  | @cons p q ps qs h t ih =>
    intro r0
    have e : KV (putK kvs p.1 p.2) (stored vs q.1 q.2) := by
      have := r0.put p.1 h.2
      rw [← h.1]; exact this
    exact ih e
structure M1 (X : Cx) (o : Expr) (m : Str) (apos : Pos) (e : Expr) (cpos : Pos) : Prop where
  base : attributeBase o m X.env (eval o X.env) = eval o X.env
  few : ((backTo cpos (starEach [e] X.env)).all (fun x => !x.1) && (backToKw cpos (keywordEach [] X.env)).all (fun x => x.1.isSome)
    && decide (([e] : List Expr).length + ([] : List Keyword).length + (if ([] : List Keyword).isEmpty then 0 else 1) < 30)) = true
  line : (apos.endLine == cpos.line) = true
  trees : backTo cpos (starEach [e] X.env) = [(false, eval e X.env)]
structure M2 (X : Cx) (o : Expr) (m : Str) (apos : Pos) (e f : Expr) (cpos : Pos) : Prop where
  base : attributeBase o m X.env (eval o X.env) = eval o X.env
  few : ((backTo cpos (starEach [e, f] X.env)).all (fun x => !x.1) && (backToKw cpos (keywordEach [] X.env)).all (fun x => x.1.isSome)
    && decide (([e, f] : List Expr).length + ([] : List Keyword).length + (if ([] : List Keyword).isEmpty then 0 else 1) < 30)) = true
  line : (apos.endLine == cpos.line) = true
  trees : backTo cpos (starEach [e, f] X.env) = [(false, eval e X.env), (false, eval f X.env)]
section
variable {X : Cx} {pins : List (Addr × Obj)} {σ : St} {H : Hp} {s : Shared} {a : Addr} {y d : V} {u r : Value} {o : Option V} {A : Around} {E : Value → Shared → Prop}
end
section
variable {X : Cx} {o e f : Expr} {apos cpos : Pos} {td ty tx : TE}
end
section
variable {X : Cx} {pins : List (Addr × Obj)} {σ : St} {H : Hp} {s : Shared} {a : Addr} {kvs : List (Key × V)} {A : Around} {E : Value → Shared → Prop}
end
section
variable {X : Cx} {pins : List (Addr × Obj)} {σ : St} {H : Hp} {s : Shared} {a : Addr} {y : V} {u : Value} {A : Around} {E : Value → Shared → Prop}
end
end L2
namespace L2
open PySem PySem.Spec PyProof.Rows
section
variable {X : Cx}
end
section
variable {κ : Type} [DecidableEq κ]
end
end L2
namespace L2
open PySem PySem.Spec PyProof.Rows
def closL (cells : List (Str × Addr)) : List (Str × NameKind) → List (Str × Addr) → List (Str × Addr)
  | [], acc => acc
  | (n, k) :: r, acc => if k == .free then closL cells r ((n, (cells.lookup n).getD 0) :: acc) else closL cells r acc
theorem clos_forIn (env : Env) (f : Str × NameKind → List (Str × Addr) → Sem (ForInStep (List (Str × Addr))))
    (hf : ∀ n k cs, f (n, k) cs = if k == .free then (do let a ← cellOf env n; pure (.yield ((n, a) :: cs))) else pure (.yield cs)) :
    ∀ (names : List (Str × NameKind)) (acc : List (Str × Addr)), (∀ x ∈ names, x.2 = .free → ∃ c, env.cells.lookup x.1 = some c) → forIn names acc f = pure (closL env.cells names acc)
  | [], acc, _ => by rw [List.forIn_nil]; rfl
  | (n, k) :: r, acc, h => by
    have ih := clos_forIn env f hf r
    rw [List.forIn_cons, hf]
    unfold closL
    by_cases hk : (k == NameKind.free) = true
    · rw [if_pos hk, if_pos hk]
      obtain ⟨c, hc⟩ := h (n, k) List.mem_cons_self (by simpa using hk)
      have e : cellOf env n = pure c := by unfold cellOf; rw [hc]
      rw [e, hc]
      exact ih _ fun x hx => h x (List.mem_cons_of_mem _ hx)
    · rw [if_neg hk, if_neg hk]
      exact ih _ fun x hx => h x (List.mem_cons_of_mem _ hx)
theorem closureFor_eq {scope : Scope} {env : Env} (h : ∀ x ∈ scope.names, x.2 = .free → ∃ c, env.cells.lookup x.1 = some c) : closureFor scope env = pure (closL env.cells scope.names []) := by
  simp only [closureFor]
  rw [clos_forIn env _ (fun n k cs => by cases hk : k == NameKind.free <;> simp [hk]) scope.names [] h]
  rfl
theorem closL_mem {cells : List (Str × Addr)} : ∀ {names : List (Str × NameKind)} {acc : List (Str × Addr)} {x : Str} {c : Addr}, (x, c) ∈ closL cells names acc → (x, c) ∈ acc ∨ ((x, NameKind.free) ∈ names ∧ c = (cells.lookup x).getD 0)
  | [], acc, x, c, h => .inl h
  | (n, k) :: r, acc, x, c, h => by
    unfold closL at h
    by_cases hk : (k == NameKind.free) = true
    · rw [if_pos hk] at h
      rcases closL_mem h with q | ⟨q, e⟩
      · rcases List.mem_cons.mp q with z | z
        · cases z
          exact .inr ⟨by rw [show NameKind.free = k from (by simpa using hk : k = NameKind.free).symm]; exact List.mem_cons_self, rfl⟩
        · exact .inl z
      · exact .inr ⟨List.mem_cons_of_mem _ q, e⟩
    · rw [if_neg hk] at h
      rcases closL_mem h with q | ⟨q, e⟩
      · exact .inl q
      · exact .inr ⟨List.mem_cons_of_mem _ q, e⟩
theorem lookup_cons_some {α : Type} {x n : Str} {c : α} {l : List (Str × α)} (h : (l.lookup x).isSome = true) : (((n, c) :: l).lookup x).isSome = true := by
  rw [List.lookup_cons]
  cases x == n <;> simp [h]
theorem closL_some {cells : List (Str × Addr)} {x : Str} : ∀ {names : List (Str × NameKind)} {acc : List (Str × Addr)}, ((x, NameKind.free) ∈ names ∨ (acc.lookup x).isSome = true) → ((closL cells names acc).lookup x).isSome = true
  | [], acc, h => by
    rcases h with h | h
    · cases h
    · exact h
  | (n, k) :: r, acc, h => by
    unfold closL
    by_cases hk : (k == NameKind.free) = true
    · rw [if_pos hk]
      refine closL_some ?_
      rcases h with h | h
      · rcases List.mem_cons.mp h with z | z
        · cases z; exact .inr (by rw [List.lookup_cons]; simp)
        · exact .inl z
      · exact .inr (lookup_cons_some h)
    · rw [if_neg hk]
      refine closL_some ?_
      rcases h with h | h
      · rcases List.mem_cons.mp h with z | z
        · cases z; exact absurd rfl hk
        · exact .inl z
      · exact .inr h
theorem cellsFrom_mem : ∀ {names : List (Str × NameKind)} {n : Nat} {acc : List (Str × Addr)} {x : Str} {c : Addr}, (x, c) ∈ cellsFrom n names acc → (x, c) ∈ acc ∨ (x, NameKind.cell) ∈ names
  | [], _, _, _, _, h => .inl h
  | (y, k) :: r, n, acc, x, c, h => by
    unfold cellsFrom at h
    by_cases hk : (k == NameKind.cell) = true
    · rw [if_pos hk] at h
      rcases cellsFrom_mem h with q | q
      · rcases List.mem_cons.mp q with z | z
        · cases z
          exact .inr (by rw [show NameKind.cell = k from (by simpa using hk : k = NameKind.cell).symm]; exact List.mem_cons_self)
        · exact .inl z
      · exact .inr (List.mem_cons_of_mem _ q)
    · rw [if_neg hk] at h
      rcases cellsFrom_mem h with q | q
      · exact .inl q
      · exact .inr (List.mem_cons_of_mem _ q)
structure CellsTwo (h : Heap) (lo : Nat) (acc cs : List (Str × Addr)) : Prop where
  part : ∀ x c, (x, c) ∈ cs → (x, c) ∈ acc ∨ (h.IsCell c none ∧ lo ≤ c)
  inj : ∀ x y c, lo ≤ c → (x, c) ∈ cs → (y, c) ∈ cs → x = y
theorem cellsFrom_two {acc0 : List (Str × Addr)} : ∀ (names : List (Str × NameKind)) (h : Heap) (lo : Nat) (acc : List (Str × Addr)), CellsTwo h lo acc0 acc → (∀ x c, (x, c) ∈ acc → c < h.objs.size) → lo ≤ h.objs.size →
    CellsTwo (pushCells h names) lo acc0 (cellsFrom h.objs.size names acc)
  | [], _, _, _, x, _, _ => x
  | (name, kind) :: r, h, lo, acc, x, hl, hlo => by
    unfold pushCells cellsFrom
    split
    · have := cellsFrom_two (acc0 := acc0) r (h.push { cls := .type "cell", data := .cell none }) lo ((name, h.objs.size) :: acc)
        ⟨fun n c hm => by
            rcases List.mem_cons.mp hm with e | hm
            · cases e; exact .inr ⟨⟨_, Heap.get?_push_size _ rfl, rfl⟩, hlo⟩
            · rcases x.part n c hm with q | q
              · exact .inl q
              · exact .inr ⟨q.1.keeps fun b o e => Heap.get?_push_of_some _ e, q.2⟩,
          fun a b c hc h1 h2 => by
            rcases List.mem_cons.mp h1 with e1 | h1 <;> rcases List.mem_cons.mp h2 with e2 | h2
            · cases e1; cases e2; rfl
            · cases e1; exact absurd (hl _ _ h2) (Nat.lt_irrefl _)
            · cases e2; exact absurd (hl _ _ h1) (Nat.lt_irrefl _)
            · exact x.inj a b c hc h1 h2⟩
        (fun n c hm => by
          rw [Heap.size_push]
          rcases List.mem_cons.mp hm with e | hm
          · cases e; exact Nat.lt_succ_self _
          · exact Nat.lt_succ_of_lt (hl n c hm)) (by rw [Heap.size_push]; omega)
      rwa [Heap.size_push] at this
    · exact cellsFrom_two r h lo acc x hl hlo
def cenvOf (env : Env) (scope : Scope) (C : Addr) : Env :=
  { scope := relabel scope env, locals := C, globals := env.globals, cells := cellsFrom (C + 1) scope.names (closL env.cells scope.names []), qual := env.qual, func := none, code := env.code, frame := env.frame, builtins := env.builtins }
theorem wpAny_compEnv {M : Model} {A : Around} {E : Value → Shared → Prop} {s : Shared} {scope : Scope} {env : Env} {cl : List (Str × Addr)} {Q : Env → Shared → Prop}
    (hQ : Q { scope := scope, locals := s.heap.objs.size, globals := env.globals, cells := cellsFrom (s.heap.objs.size + 1) scope.names cl, qual := env.qual, func := none, code := env.code, frame := env.frame, builtins := env.builtins }
      { s with heap := pushCells (s.heap.push { cls := .type "dict", data := .dict #[] }) scope.names }) :
    wpAny M A (newFunctionEnv scope env.globals cl [] env.qual none .none (some env)) Q E s := by
  simp only [newFunctionEnv, Option.isSome_some, if_true]
  refine wpAny_bind (wpAny_alloc ?_)
  refine wpAny_bind (wpAny_layCells _ (fun name kind cells => by cases hkc : kind == NameKind.cell <;> simp [hkc]) _ _ _ _ ?_)
  rw [show ({ s with heap := s.heap.push { cls := .type "dict", data := .dict #[] } } : Shared).heap.objs.size = s.heap.objs.size + 1 from Heap.size_push ..]
  rw [List.forIn_nil]
  exact wpAny_bind (wpAny_pure (wpAny_pure hQ))
theorem compLoop_any {prog : Program} {w : World} {A : Around} {R : Result → Shared → Prop} {s : Shared} {elt target iter : Expr} {ifs : List Expr} {scope : Scope} {pos : Pos} {it acc : Value} {env : Env} (I : Nat → Shared → Prop)
    (turn : ∀ n s, I n s → wpAny (model prog w) A (pyNext it) (fun r s₁ => match r with
      | none => R (.ok .next) s₁
      | some v => wpAny (model prog w) A (letOwnedTupleGo target it v) (fun _ s₁' => wpAny (model prog w) A (assign target env v) (fun _ s₂ =>
          wpAny (model prog w) A (forIn ifs true fun c r => if r = true then do let ok ← isTrue c env (eval c env); pure (ForInStep.yield ok) else pure (ForInStep.yield r)) (fun ok s₃ =>
            if ok = true then wpAny (model prog w) A (eval elt env) (fun x s₄ =>
              wpAny (model prog w) A (call (.builtin "list.append") [acc, x]) (fun _ s₅ => ∃ m, m < n ∧ I m s₅) (fun _ _ => False) s₄) (fun _ _ => False) s₃
            else ∃ m, m < n ∧ I m s₃) (fun _ _ => False) s₂) (fun _ _ => False) s₁') (fun _ _ => False) s₁) (fun _ _ => False) s)
    (n : Nat) (h : I n s) :
    codeAny (model prog w) A (.compLoop (.ListComp elt [⟨target, iter, ifs, 0⟩] scope pos) 0 it acc env) R s := by
  refine codeAny_loop rfl I (fun n s hI => ?_) n h
  show wpAny _ A ((compTurn (.ListComp elt [⟨target, iter, ifs, 0⟩] scope pos) 0 it acc env).onRaise (fun x => do noteFrame x env; theTreesLotGoes x)) _ _ s
  refine wpAny_noted ?_
  rw [compTurn_list]
  refine wpAny_bind (wpAny_standAt (wpAny_bind (wpAny_mono (turn n s hI) (fun r s₁ h₁ => ?_) fun _ _ h' => h'.elim)))
  cases r with
  | none => exact wpAny_pure h₁
  | some v =>
    refine wpAny_bind (wpAny_mono h₁ (fun _ s₁' h₁ => ?_) fun _ _ h' => h'.elim)
    refine wpAny_bind (wpAny_mono h₁ (fun _ s₂ h₂ => wpAny_bind (wpAny_mono h₂ (fun ok s₃ h₃ => ?_) fun _ _ h' => h'.elim)) fun _ _ h' => h'.elim)
    cases ok with
    | false => exact wpAny_pure ⟨rfl, h₃⟩
    | true =>
      exact wpAny_bind (wpAny_bind (wpAny_mono h₃ (fun x s₄ h₄ => wpAny_bind (wpAny_mono h₄ (fun _ s₅ h₅ => wpAny_pure (wpAny_pure ⟨rfl, h₅⟩)) fun _ _ h' => h'.elim)) fun _ _ h' => h'.elim))
end L2
namespace L2
open PySem PySem.Spec PyProof.Rows
def cmpOf (X : Cx) (scope : Scope) (N' : List Str) (C : Addr) (s : Shared) (H : Hp) (fp : List Addr) : Cx :=
  { X with N := N', s₀ := s, H₀ := H, env := cenvOf X.env scope C, outer := X.stack, stack := X.stack, ex := fp, fn := fun x => !(scope.names.lookup x == some .free), pn := [], xe := fun _ _ => False }
def subσ (sub : List (Option Nat)) (σ : St) : St := sub.map fun o => o.bind fun i => (σ[i]?).join
def cmpOkB (N : List Str) (sc : Scope) (N' : List Str) (scope : Scope) (sub : List (Option Nat)) : Bool :=
  scope.kind == .function && decide ((scope.names.map (·.1)).Nodup) && decide N'.Nodup && sub.length == N'.length &&
  (scope.names.all fun x => !(x.2 == .free) || sc.names.lookup x.1 == some .cell || sc.names.lookup x.1 == some .free) &&
  ((sub.zip N').all fun p => match p.1 with
    | none => true
    | some i => N[i]? == some p.2 && scope.names.lookup p.2 == some .free)
structure CmpOk (N : List Str) (sc : Scope) (N' : List Str) (scope : Scope) (sub : List (Option Nat)) : Prop where
  kind : scope.kind = .function
  nd : (scope.names.map (·.1)).Nodup
  nd' : N'.Nodup
  len : sub.length = N'.length
  free : ∀ x ∈ scope.names, x.2 = .free → sc.names.lookup x.1 = some .cell ∨ sc.names.lookup x.1 = some .free
  sub : ∀ (j i : Nat) (x : Str), sub[j]? = some (some i) → N'[j]? = some x → N[i]? = some x ∧ scope.names.lookup x = some .free
theorem CmpOk.of {N : List Str} {sc : Scope} {N' : List Str} {scope : Scope} {sub : List (Option Nat)} (h : cmpOkB N sc N' scope sub = true) : CmpOk N sc N' scope sub := by
  unfold cmpOkB at h
  simp only [Bool.and_eq_true] at h
  obtain ⟨⟨⟨⟨⟨h1, h2⟩, h3⟩, h4⟩, h5⟩, h6⟩ := h
  refine ⟨by simpa using h1, of_decide_eq_true h2, of_decide_eq_true h3, by simpa using h4, fun x hx hf => ?_, fun j i x hj hx => ?_⟩
  · have q := List.all_eq_true.mp h5 x hx
    rw [hf] at q
    simp only [beq_self_eq_true, Bool.not_true, Bool.false_or, Bool.or_eq_true] at q
    rcases q with q | q
    · exact .inl (by simpa using q)
    · exact .inr (by simpa using q)
  · have q := List.all_eq_true.mp h6 (some i, x) (by
      refine List.mem_of_getElem? (i := j) ?_
      rw [List.getElem?_zip_eq_some]
      exact ⟨hj, hx⟩)
    simp only [Bool.and_eq_true] at q
    exact ⟨by simpa using q.1, by simpa using q.2⟩
theorem lookup_mem_nd {α : Type} : ∀ {l : List (Str × α)} {x : Str} {c : α}, (l.map (·.1)).Nodup → (x, c) ∈ l → l.lookup x = some c
  | (y, d) :: r, x, c, nd, h => by
    rw [List.lookup_cons]
    rcases List.mem_cons.mp h with e | h
    · cases e; simp
    · have ne : x ≠ y := fun e => by
        rw [List.map_cons] at nd
        exact (List.nodup_cons.mp nd).1 (by rw [← e]; exact List.mem_map.mpr ⟨(x, c), h, rfl⟩)
      rw [show (x == y) = false from by simpa using ne]
      exact lookup_mem_nd (List.nodup_cons.mp nd).2 h
theorem lookup_relab {sc : Scope} : ∀ {names : List (Str × NameKind)} {x : Str},
    ((names.map fun (n, k) => if (k == NameKind.free && sc.kind == .function && sc.names.lookup n == some .cell) then (n, NameKind.cell) else (n, k)).lookup x) =
      (names.lookup x).map fun k => if (k == NameKind.free && sc.kind == .function && sc.names.lookup x == some .cell) then NameKind.cell else k
  | [], x => rfl
  | (n, k) :: r, x => by
    have ih := @lookup_relab sc r x
    rw [List.map_cons]
    show List.lookup x ((if (k == NameKind.free && sc.kind == .function && sc.names.lookup n == some .cell) = true then (n, NameKind.cell) else (n, k)) :: _) = _
    by_cases hc : (k == NameKind.free && sc.kind == .function && sc.names.lookup n == some .cell) = true
    · rw [if_pos hc, List.lookup_cons, List.lookup_cons]
      by_cases hx : x = n
      · subst hx
        rw [show (x == x) = true from beq_self_eq_true x]
        show some NameKind.cell = Option.map _ (some k)
        rw [Option.map_some, if_pos hc]
      · rw [show (x == n) = false by simpa using hx]
        exact ih
    · rw [if_neg hc, List.lookup_cons, List.lookup_cons]
      by_cases hx : x = n
      · subst hx
        rw [show (x == x) = true from beq_self_eq_true x]
        show some k = Option.map _ (some k)
        rw [Option.map_some, if_neg hc]
      · rw [show (x == n) = false by simpa using hx]
        exact ih
section
variable {X : Cx} {pins : List (Addr × Obj)} {σ : St} {H H' : Hp} {s : Shared}
theorem frs_sub_of (I : Inv X pins σ H s) {b : Addr} (hb : b ∈ frs X.stack) (n1 : b ≠ X.env.locals) : b ∈ X.fs := (List.mem_cons.mp (I.stkSub b hb)).elim (fun e => absurd e n1) id
theorem cells_facts {N' : List Str} {scope : Scope} {sub : List (Option Nat)} {h3 : Heap} (I : Inv X pins σ H s) (O : CmpOk X.N X.env.scope N' scope sub)
    (hk : ∀ b o, s.heap.get? b = some o → h3.get? b = some o) :
    (∀ x c, (cellsFrom (h3.objs.size + 1) scope.names (closL X.env.cells scope.names [])).lookup x = some c →
      (((pushCells (h3.push { cls := .type "dict", data := .dict #[] }) scope.names).IsCell c none ∧ h3.objs.size + 1 ≤ c ∧ (x, NameKind.cell) ∈ scope.names) ∨ ((x, NameKind.free) ∈ scope.names ∧ X.env.cells.lookup x = some c))) ∧
    (∀ x y c, (cellsFrom (h3.objs.size + 1) scope.names (closL X.env.cells scope.names [])).lookup x = some c → (cellsFrom (h3.objs.size + 1) scope.names (closL X.env.cells scope.names [])).lookup y = some c → x = y) := by
  have hin : ∀ x c, (x, c) ∈ closL X.env.cells scope.names [] → (x, NameKind.free) ∈ scope.names ∧ X.env.cells.lookup x = some c := fun x c h => by
    rcases closL_mem h with q | ⟨q, e⟩
    · cases q
    · have hx : ∃ c, X.env.cells.lookup x = some c := by
        refine I.ok.has x ?_
        rcases O.free _ q rfl with z | z
        · exact .inl z
        · exact .inr z
      obtain ⟨c', hc'⟩ := hx
      rw [hc'] at e
      exact ⟨q, by rw [hc', e]; rfl⟩
  have hlt : ∀ x c, (x, c) ∈ closL X.env.cells scope.names [] → c < h3.objs.size := fun x c h => by
    obtain ⟨v, o, ho, _⟩ := I.cell x c (hin x c h).2
    exact Heap.lt_size (hk _ _ ho)
  have two := cellsFrom_two (acc0 := closL X.env.cells scope.names []) scope.names (h3.push { cls := .type "dict", data := .dict #[] }) (h3.objs.size + 1) (closL X.env.cells scope.names [])
    ⟨fun x c h => .inl h, fun x y c hc h1 _ => absurd (hlt x c h1) (Nat.not_lt.mpr (Nat.le_of_succ_le hc))⟩ (fun x c h => by rw [Heap.size_push]; exact Nat.lt_succ_of_lt (hlt x c h)) (by rw [Heap.size_push]; exact Nat.le_refl _)
  rw [Heap.size_push] at two
  refine ⟨fun x c h => ?_, fun x y c h1 h2 => ?_⟩
  · have m := PySem.mem_of_lookup h
    rcases two.part x c m with q | q
    · exact .inr (hin x c q)
    · refine .inl ⟨q.1, q.2, ?_⟩
      rcases cellsFrom_mem m with z | z
      · exact absurd (hlt x c z) (Nat.not_lt.mpr (Nat.le_of_succ_le q.2))
      · exact z
  · have m1 := PySem.mem_of_lookup h1
    have m2 := PySem.mem_of_lookup h2
    by_cases hc : h3.objs.size + 1 ≤ c
    · exact two.inj x y c hc m1 m2
    · rcases two.part x c m1 with q1 | q1
      · rcases two.part y c m2 with q2 | q2
        · exact I.ok.inj x y c (hin x c q1).2 (hin y c q2).2
        · exact absurd q2.2 hc
      · exact absurd q1.2 hc
theorem inv_comp {N' : List Str} {scope : Scope} {sub : List (Option Nat)} {fp : List Addr} (I : Inv X pins σ H s) (O : CmpOk X.N X.env.scope N' scope sub) (hf : ∀ b ∈ fp, FpOk X pins H b)
    (hfl : ∀ b ∈ fp, b < s.heap.objs.size) :
    Inv (cmpOf X scope N' (s.heap.objs.size + 1) s H fp) [(s.heap.objs.size, { cls := .type "list", data := .seq #[] })] (subσ sub σ) H
      { s with heap := pushCells ((s.heap.push { cls := .type "list", data := .seq #[] }).push { cls := .type "dict", data := .dict #[] }) scope.names } := by
  have hk3 : ∀ b o, s.heap.get? b = some o → (s.heap.push { cls := .type "list", data := .seq #[] }).get? b = some o := fun b o e => Heap.get?_push_of_some _ e
  have sz3 : (s.heap.push { cls := .type "list", data := .seq #[] }).objs.size = s.heap.objs.size + 1 := Heap.size_push ..
  have hk : ∀ b o, s.heap.get? b = some o → (pushCells ((s.heap.push { cls := .type "list", data := .seq #[] }).push { cls := .type "dict", data := .dict #[] }) scope.names).get? b = some o :=
    fun b o e => pushCells_keeps _ _ b o (Heap.get?_push_of_some _ (hk3 b o e))
  have cf := cells_facts (h3 := s.heap.push { cls := .type "list", data := .seq #[] }) I O hk3
  rw [sz3] at cf
  have hC : H (s.heap.objs.size + 1) = none := I.hok.fresh (Nat.le_succ _)
  have nsC : (pushCells ((s.heap.push { cls := .type "list", data := .seq #[] }).push { cls := .type "dict", data := .dict #[] }) scope.names).Ns (s.heap.objs.size + 1) (fun _ => none) := by
    rw [← sz3]
    exact (Heap.Ns.new _ _).keeps (pushCells_keeps _ _)
  have has : ∀ x, (scope.names.lookup x = some .cell ∨ scope.names.lookup x = some .free) → ∃ c, (cellsFrom (s.heap.objs.size + 1 + 1) scope.names (closL X.env.cells scope.names [])).lookup x = some c := fun x hx => by
    refine Option.isSome_iff_exists.mp (PySem.W.cellsFrom_some _ _ _ ?_)
    rcases hx with z | z
    · exact .inl z
    · exact .inr (closL_some (.inl (PySem.mem_of_lookup z)))
  have kindB : ∀ x, (cenvOf X.env scope (s.heap.objs.size + 1)).kindOf x = (scope.names.lookup x).map fun k => if (k == NameKind.free && X.env.scope.kind == .function && X.env.scope.names.lookup x == some .cell) then NameKind.cell else k := fun x => lookup_relab
  have cellOk : ∀ x c, (cenvOf X.env scope (s.heap.objs.size + 1)).cells.lookup x = some c → ∃ v, (pushCells ((s.heap.push { cls := .type "list", data := .seq #[] }).push { cls := .type "dict", data := .dict #[] }) scope.names).IsCell c v := fun x c h => by
    rcases cf.1 x c h with q | q
    · exact ⟨_, q.1⟩
    · obtain ⟨v, z⟩ := I.cell x c q.2
      exact ⟨v, z.keeps hk⟩
  refine ⟨⟨I.ok.mod, O.kind, I.ok.glob, I.ok.blt, Nat.le_succ _, fun x y c h1 h2 => cf.2 x y c h1 h2, fun x hx => ?_, fun x c hx h => ?_, I.ok.hd, I.ok.frames, .inl rfl, fun b hb => ?_, fun b o e => I.bs b o e, Nat.le_trans I.ok.bsz I.sz, fun b o e hb => ?_, fun b hb => ?_, I.stack, I.stkFree⟩,
    rfl, I.bare, Un.kept hk, ⟨fun _ => none, nsC, fun i x v h1 h2 h3 => ?_⟩, cellOk, hC, fun x c h => ?_, fun p hp => ?_, I.hok.kept hk, ?_⟩
  · -- has
    refine has x ?_
    have hx : (cenvOf X.env scope (s.heap.objs.size + 1)).kindOf x = some .cell ∨ (cenvOf X.env scope (s.heap.objs.size + 1)).kindOf x = some .free := hx
    rw [kindB] at hx
    cases e : scope.names.lookup x with
    | none => rw [e] at hx; rcases hx with z | z <;> cases z
    | some k =>
      rw [e] at hx
      cases k with
      | cell => exact .inl rfl
      | free => exact .inr rfl
      | _ => exfalso; rcases hx with z | z <;> simp at z
  · -- cab
    rcases cf.1 x c h with q | q
    · have := q.2.1
      show s.heap.objs.size ≤ c
      omega
    · exfalso
      have e := lookup_mem_nd O.nd q.1
      have hx' : (!(scope.names.lookup x == some NameKind.free)) = true := hx
      rw [e] at hx'
      exact absurd hx' (by decide)
  · -- exf
    obtain ⟨f0, f1, f2, f3, f4, f5⟩ := hf b hb
    have lt := hfl b hb
    refine ⟨fun e => ?_, fun x c h e => ?_⟩
    · have e' : b = s.heap.objs.size + 1 := e
      rw [e'] at lt
      exact absurd lt (Nat.not_lt.mpr (Nat.le_succ _))
    · rcases cf.1 x c h with q | q
      · have z := q.2.1
        rw [e] at z
        exact absurd lt (Nat.not_lt.mpr (Nat.le_trans (Nat.le_trans (Nat.le_succ _) (Nat.le_succ _)) z))
      · exact f4 x c q.2 e
  · -- noex
    obtain ⟨f0, f1, f2, f3, f4, f5⟩ := hf b hb
    rcases f3 with z | z
    · exact I.ok.noex b o e z
    · exact absurd (Nat.lt_of_lt_of_le (Heap.lt_size (I.ok.bs b o e).1) z) (Nat.lt_irrefl _)
  · -- exfs
    obtain ⟨f0, f1, f2, f3, f4, f5⟩ := hf b hb
    exact fun z => f2 (frs_sub_of I z f1)
  · -- loc
    have h1' : N'[i]? = some x := h1
    have hsub : ∃ k, sub[i]? = some (some k) ∧ (σ[k]?).join = some v := by
      unfold subσ at h2
      rw [List.getElem?_map] at h2
      cases e : sub[i]? with
      | none => rw [e] at h2; cases h2
      | some o =>
        rw [e] at h2
        cases o with
        | none => cases h2
        | some k => exact ⟨k, rfl, by simpa using h2⟩
    obtain ⟨k, hk1, hk2⟩ := hsub
    obtain ⟨nk, fx⟩ := O.sub i k x hk1 h1'
    have sk : σ[k]? = some (some v) := by
      cases e : σ[k]? with
      | none => rw [e] at hk2; cases hk2
      | some o => rw [e] at hk2; cases o with
        | none => cases hk2
        | some y => cases hk2; rfl
    have cx := O.free _ (PySem.mem_of_lookup fx) rfl
    obtain ⟨m, hn, hl⟩ := I.loc
    obtain ⟨u, ru, lk⟩ := hl k x v nk sk (by
      rcases cx with z | z
      · exact .inr (.inl z)
      · exact .inr (.inr z))
    refine ⟨u, ru, .inr ⟨?_, ?_⟩⟩
    · show (cenvOf X.env scope (s.heap.objs.size + 1)).kindOf x = some .cell ∨ (cenvOf X.env scope (s.heap.objs.size + 1)).kindOf x = some .free
      rw [kindB, fx]
      by_cases hc : (NameKind.free == NameKind.free && X.env.scope.kind == .function && X.env.scope.names.lookup x == some .cell) = true
      · exact .inl (by rw [Option.map_some, if_pos hc])
      · exact .inr (by rw [Option.map_some, if_neg hc])
    · rcases lk with ⟨kl, _⟩ | ⟨_, c, hc, hcell⟩
      · exfalso
        have kl' : X.env.scope.names.lookup x = some .local := kl
        rcases cx with z | z <;> rw [kl'] at z <;> cases z
      · obtain ⟨c', hc'⟩ := has x (.inr fx)
        refine ⟨c', hc', ?_⟩
        rcases cf.1 x c' hc' with q | q
        · exfalso
          have e := lookup_mem_nd O.nd q.2.2
          rw [fx] at e; cases e
        · rw [hc] at q
          have e : c = c' := Option.some.inj q.2
          subst e
          exact hcell.keeps hk
  · -- freeC
    rcases cf.1 x c h with q | q
    · exact I.hok.fresh (by have := q.2.1; omega)
    · exact I.freeC x c q.2
  · -- pin
    have hp' : p = (s.heap.objs.size, ({ cls := .type "list", data := .seq #[] } : Obj)) := by
      have : p ∈ ([] ++ [(s.heap.objs.size, ({ cls := .type "list", data := .seq #[] } : Obj))] : List (Addr × Obj)) := hp
      simpa using this
    subst hp'
    refine ⟨pushCells_keeps _ _ _ _ (Heap.get?_push_of_some _ (Heap.get?_push_size _ rfl)), I.hok.fresh (Nat.le_refl _), Nat.ne_of_lt (Nat.lt_succ_self _), fun z => ?_, fun v z => ?_⟩
    · rcases List.mem_cons.mp (I.stkSub _ z) with e | e
      · exact absurd I.lt (by rw [← e]; exact Nat.lt_irrefl _)
      · exact I.nofs (Nat.le_refl _) e
    · cases z
  · -- len
    show (subσ sub σ).length = N'.length
    unfold subσ
    rw [List.length_map, O.len]
end
end L2
namespace L2
open PySem PySem.Spec PyProof.Rows
def Sle (σ σ2 : St) : Prop := σ2.length = σ.length ∧ ∀ (i : Nat) (v : V), σ[i]? = some (some v) → σ2[i]? = some (some v)
theorem Sle.refl (σ : St) : Sle σ σ := ⟨rfl, fun _ _ h => h⟩
theorem Sle.set {σ σ2 : St} {i : Nat} (v : V) (h : Sle σ σ2) (hi : ∀ u, σ[i]? ≠ some (some u)) : Sle σ (σ2.set i (some v)) := by
  refine ⟨by rw [List.length_set]; exact h.1, fun j u hj => ?_⟩
  have ne : i ≠ j := fun e => hi u (by rw [e]; exact hj)
  rw [List.getElem?_set_ne ne]
  exact h.2 j u hj
def PTs (X : Cx) (ifs : List Expr) (t : TT) : Prop :=
  ∀ (pins : List (Addr × Obj)) (s : Shared) (σ : St) (H : Hp) (Q : Bool → Hp → Prop), Inv X pins σ H s → t σ H Q →
    wpAny (model X.prog X.w) X.A (forIn ifs true fun c r => if r = true then do let ok ← isTrue c X.env (eval c X.env); pure (ForInStep.yield ok) else pure (ForInStep.yield r)) (TP X pins σ Q) X.xe s
def tNoTest : TT := fun _ H Q => Q true H
theorem pts_nil {X : Cx} : PTs X [] tNoTest := fun pins s σ H Q I h => wpAny_tests_nil ⟨H, I, h⟩
theorem pts_one {X : Cx} {c : Expr} {t : TT} (h : PT X c t) : PTs X [c] t := fun pins s σ H Q I hw => wpAny_tests_one (h pins s σ H Q I hw)
def cTurns (J : It) (σ0 : St) (g : TG) (tt : TT) (te : TE) (Q : List V → Hp → Prop) (H1 : Hp) : Prop :=
  ∃ W : Nat → Nat → List V → Hp → Prop, (∃ m, W 0 m [] H1) ∧ ∀ i m ys H, W i m ys H →
    (J.stop i H ∧ Q ys H) ∨
    (J.go i H ∧ ∀ x H', J.yld i H x H' → g x σ0 H' fun σ2 H2 => Sle σ0 σ2 ∧ tt σ2 H2 fun b H3 =>
      if b = true then te σ2 H3 (fun v H4 => ys.length < sizeLine ∧ ∃ m', m' < m ∧ W (i + 1) m' (ys ++ [v]) H4) else ∃ m', m' < m ∧ W (i + 1) m' ys H3)
section
variable {X : Cx} {pins : List (Addr × Obj)} {σ : St} {H : Hp} {s : Shared}
theorem comp_core {target iter elt : Expr} {ifs : List Expr} {scope : Scope} {pos : Pos} {N' : List Str} {sub : List (Option Nat)} {J : It} {fp : List Addr} {it : Addr} {tn : Nat → Heap → Prop} {g : TG} {tt : TT} {te : TE}
    {Qe : List V → Hp → Prop} {E : Value → Shared → Prop} {RR : Value → Addr → Result → Shared → Prop}
    (hc : X.calm = true) (I : Inv X pins σ H s) (O : CmpOk X.N X.env.scope N' scope sub) (T : Turn X.prog X.w X.K target J fp it tn) (st : tn 0 s.heap) (hf : ∀ b ∈ fp, FpOk X pins H b)
    (B : ∀ C s H fp, PG (cmpOf X scope N' C s H fp) target g ∧ PTs (cmpOf X scope N' C s H fp) ifs tt ∧ PE (cmpOf X scope N' C s H fp) elt te)
    (rd : cTurns J (subσ sub σ) g tt te Qe H)
    (hRR : ∀ (acc C : Addr) (ys : List V) (H' : Hp) (s' : Shared), Inv X pins σ (upd H' acc (.lst ys)) s' → FpOk X pins (upd H' acc (.lst ys)) C → (∃ m, s'.heap.Ns C m) → H' acc = none → Qe ys H' → RR (.ref acc) C (.ok .next) s') :
    wpAny (model X.prog X.w) X.A (newList []) (fun acc s₃ => wpAny (model X.prog X.w) X.A (newFunctionEnv scope X.env.globals (closL X.env.cells scope.names []) [] X.env.qual none .none (some X.env)) (fun cenv s₄ =>
      codeAny (model X.prog X.w) X.A (.compStart (.ListComp elt [⟨target, iter, ifs, 0⟩] scope pos) 0 (.ref it) acc { cenv with scope := relabel scope X.env }) (RR acc cenv.locals) s₄) E s₃) E s := by
  refine wpAny_newObj_type (wpAny_compEnv ?_)
  have hfl : ∀ b ∈ fp, b < s.heap.objs.size := fun b hb => by
    obtain ⟨o, e, _⟩ := T.obj _ _ st b hb
    exact Heap.lt_size e
  have I0 := inv_comp (sub := sub) I O hf hfl
  have sz3 : (s.heap.push { cls := .type "list", data := .seq #[] }).objs.size = s.heap.objs.size + 1 := Heap.size_push ..
  dsimp only
  show codeAny _ _ (.compStart _ 0 (.ref it) (.ref s.heap.objs.size) { scope := relabel scope X.env, locals := (s.heap.push { cls := .type "list", data := .seq #[] }).objs.size, globals := X.env.globals, cells := cellsFrom ((s.heap.push { cls := .type "list", data := .seq #[] }).objs.size + 1) scope.names (closL X.env.cells scope.names []), qual := X.env.qual, func := none, code := X.env.code, frame := X.env.frame, builtins := X.env.builtins })
    (RR (.ref s.heap.objs.size) (s.heap.push { cls := .type "list", data := .seq #[] }).objs.size) { s with heap := pushCells ((s.heap.push { cls := .type "list", data := .seq #[] }).push { cls := .type "dict", data := .dict #[] }) scope.names }
  rw [sz3]
  show codeAny _ _ (.compStart _ 0 (.ref it) (.ref s.heap.objs.size) (cenvOf X.env scope (s.heap.objs.size + 1))) (RR (.ref s.heap.objs.size) (s.heap.objs.size + 1)) _
  generalize hs0 : ({ s with heap := pushCells ((s.heap.push { cls := .type "list", data := .seq #[] }).push { cls := .type "dict", data := .dict #[] }) scope.names } : Shared) = s0 at I0 ⊢
  have hk0 : ∀ b o, s.heap.get? b = some o → s0.heap.get? b = some o := fun b o e => by
    rw [← hs0]
    exact pushCells_keeps _ _ b o (Heap.get?_push_of_some _ (Heap.get?_push_of_some _ e))
  have st0 : tn 0 s0.heap := T.keep _ _ _ st fun b hb o e => hk0 b o e
  clear hs0 sz3
  generalize hX : cmpOf X scope N' (s.heap.objs.size + 1) s H fp = X' at I0
  have xp : X'.prog = X.prog := by rw [← hX]; rfl
  have xw : X'.w = X.w := by rw [← hX]; rfl
  have xK : X'.K = X.K := by rw [← hX]; rfl
  have xA : X'.A = X.A := by rw [← hX]; rfl
  have xc : X'.calm = true := by rw [← hX]; exact hc
  have xe : X'.env = cenvOf X.env scope (s.heap.objs.size + 1) := by rw [← hX]; rfl
  have xx : X'.ex = fp := by rw [← hX]; rfl
  have xo : X'.outer = X.stack := by rw [← hX]; rfl
  have xf : X'.fs = frs X.stack := by rw [← hX]; rfl
  have xpn : X'.pn = [] := by rw [← hX]; rfl
  have x0 : X'.s₀ = s := by rw [← hX]; rfl
  have xh : X'.H₀ = H := by rw [← hX]; rfl
  have xxe : X'.xe = fun _ _ => False := by rw [← hX]; rfl
  obtain ⟨hg, ht, he⟩ := B (s.heap.objs.size + 1) s H fp
  rw [hX] at hg ht he
  clear hX
  have stat : ∀ {pl : List (Addr × Obj)} {H' : Hp}, (∀ p ∈ pl, p.1 = s.heap.objs.size) → (∀ b ∈ fp, H' b = none) → ∀ b ∈ fp, FpOk X' pl H' b := fun {pl H'} hp hn b hb => by
    obtain ⟨f0, f1, f2, f3, f4, f5⟩ := hf b hb
    refine ⟨hn b hb, (I0.ok.exf b (by rw [xx]; exact hb)).1, I0.ok.exfs b (by rw [xx]; exact hb), .inl (by rw [xx]; exact hb), (I0.ok.exf b (by rw [xx]; exact hb)).2, fun p hp' => ?_⟩
    rw [xpn, List.nil_append] at hp'
    rw [hp p hp']
    exact Nat.ne_of_gt (hfl b hb)
  obtain ⟨W, ⟨m0, w0⟩, turn⟩ := rd
  have loop : ∀ s3 : Shared, s3 = s0 → codeAny (model X.prog X.w) X.A (.compLoop (.ListComp elt [⟨target, iter, ifs, 0⟩] scope pos) 0 (.ref it) (.ref s.heap.objs.size) (cenvOf X.env scope (s.heap.objs.size + 1))) (RR (.ref s.heap.objs.size) (s.heap.objs.size + 1)) s3 := by
    intro s3 e3
    refine compLoop_any (fun n s' => ∃ (i : Nat) (ys : List V) (H' : Hp) (its : List Value) (k : Nat), Inv X' [(s.heap.objs.size, { cls := .type "list", data := .seq its.toArray k })] (subσ sub σ) H' s' ∧ Vals ys its ∧ ys.length ≤ sizeLine ∧ tn i s'.heap ∧ (∀ b ∈ fp, H' b = none) ∧ W i n ys H') ?_ m0
      ⟨0, [], H, [], 0, by rw [e3]; exact I0, .nil, Nat.zero_le _, by rw [e3]; exact st0, fun b hb => (hf b hb).1, w0⟩
    rintro n s4 ⟨i, ys, H4, its, k, I4, rv, hz, st4, fr4, w4⟩
    have pe : ∀ p ∈ ([(s.heap.objs.size, ({ cls := .type "list", data := .seq its.toArray k } : Obj))] : List (Addr × Obj)), p.1 = s.heap.objs.size := fun p hp => by
      rw [List.mem_singleton] at hp
      rw [hp]
    rcases turn i n ys H4 w4 with ⟨stop, q⟩ | ⟨go, step⟩
    · -- the end
      have td := T.done X' xp xw xK xc i _ s4 (subσ sub σ) H4 (fun _ _ => False) I4 (stat pe fr4) st4 stop
      rw [xA] at td
      refine thn td fun r s5 ⟨hr, I5⟩ => ?_
      subst hr
      have pa := I5.pin (s.heap.objs.size, { cls := .type "list", data := .seq its.toArray k }) (by rw [xpn]; simp)
      have nacc : H4 s.heap.objs.size = none := pa.2.1
      have nC : H4 (s.heap.objs.size + 1) = none := by have z := I5.free; rw [xe] at z; exact z
      have un : Un (frs X.stack) fp H H4 s.heap s5.heap := by have z := I5.base; rw [xf, xx, xh, x0] at z; exact z
      have un2 : Un (frs X.stack) fp H (upd H4 s.heap.objs.size (.lst ys)) s.heap s5.heap := by
        refine ⟨un.keep, un.slot, fun b o e n hx => ?_, un.there, fun b xs e => ?_, fun b o u e => ?_, fun b ps e => ?_⟩
        · rw [upd_ne (Nat.ne_of_lt (Heap.lt_size e))]
          exact un.free b o e n hx
        · have z := un.tups b xs e
          rw [upd_ne (ne_of_none z nacc)]; exact z
        · have z := un.frzs b o u e
          rw [upd_ne (ne_of_none z nacc)]; exact z
        · obtain ⟨more, z⟩ := un.tbls b ps e
          exact ⟨more, by rw [upd_ne (ne_of_none z nacc)]; exact z⟩
      have hok5 : HOk X.prog X.w H4 s5.heap := by have z := I5.hok; rw [xp, xw] at z; exact z
      have hok2 : HOk X.prog X.w (upd H4 s.heap.objs.size (.lst ys)) s5.heap := fun b u e => by
        by_cases hb : b = s.heap.objs.size
        · subst hb
          rw [upd_same] at e
          cases e
          exact ⟨hz, its, k, rv, pa.1⟩
        · rw [upd_ne hb] at e
          exact (hok5 b u e).stay (fun _ _ _ q => q) (fun c q => by rw [upd_ne (ne_of_none q nacc)]; exact q) fun c xs q => by rw [upd_ne (ne_of_none q nacc)]; exact q
      have os5 : s5.os = s.os := by have z := I5.os; rw [x0] at z; exact z
      have J5 : Inv X pins σ (upd H4 s.heap.objs.size (.lst ys)) s5 := I.call' os5 un2 hok2 I5.bare fun b hb => by
        obtain ⟨f0, f1, f2, f3, f4, f5⟩ := hf b hb
        exact ⟨f3, f1, f4, f5⟩
      refine hRR _ _ ys H4 s5 J5 (I.fpOk (Nat.le_succ _) ?_) ?_ nacc q
      · rw [upd_ne (Nat.succ_ne_self _)]; exact nC
      · obtain ⟨m, hn, _⟩ := I5.loc
        rw [xe] at hn
        exact ⟨m, hn⟩
    · -- one turn
      have ti := T.item X' xp xw xK xc i _ s4 (subσ sub σ) H4 (fun _ _ => False) I4 (stat pe fr4) st4 go
      rw [xA] at ti
      refine thn ti fun r s5 ⟨u, hr, h5⟩ => ?_
      subst hr
      refine thn h5 fun _ s6 ⟨x, H6, I6, r6, y6, st6, fr6⟩ => ?_
      have I6' := I6.pinned (stat pe fr6) (T.obj _ _ st6)
      have tg := hg _ s6 (subσ sub σ) H6 x u _ I6' r6 (step x H6 y6)
      rw [xp, xw, xA, xe, xxe] at tg
      refine thn tg fun _ s7 ⟨σ7, H7, I7, le7, q7⟩ => ?_
      have tts := ht _ s7 σ7 H7 _ I7 q7
      rw [xp, xw, xA, xe, xxe] at tts
      refine thn tts fun b s8 ⟨H8, I8, q8⟩ => ?_
      cases b with
      | false =>
        rw [if_neg Bool.false_ne_true] at q8 ⊢
        obtain ⟨m', hm', w8⟩ := q8
        have I9 : Inv X' ([(s.heap.objs.size, { cls := .type "list", data := .seq its.toArray k })] ++ pinsAt fp s6.heap) (subσ sub σ) H8 s8 := I8.weak le7.1.symm le7.2
        refine ⟨m', hm', i + 1, ys, H8, its, k, I9.unpinned, rv, hz, T.keep _ _ _ st6 fun b hb o e => (I9.pin (b, o) (List.mem_append_right _ (List.mem_append_right _ (mem_pinsAt hb e)))).1, fun b hb => ?_, w8⟩
        obtain ⟨o, e, d⟩ := T.obj _ _ st6 b hb
        exact (I9.pin (b, o) (List.mem_append_right _ (List.mem_append_right _ (mem_pinsAt hb e)))).2.1
      | true =>
        rw [if_pos rfl] at q8 ⊢
        have tee := he _ s8 σ7 H8 _ I8 q8
        rw [xp, xw, xA, xe, xxe] at tee
        refine thn tee fun vv s9 ⟨v, H9, I9, r9, lz, m', hm', w9⟩ => ?_
        have I10 : Inv X' ([(s.heap.objs.size, { cls := .type "list", data := .seq its.toArray k })] ++ pinsAt fp s6.heap) (subσ sub σ) H9 s9 := I9.weak le7.1.symm le7.2
        have pa := I10.pin (s.heap.objs.size, { cls := .type "list", data := .seq its.toArray k }) (by rw [xpn]; simp)
        have hlen := rv.length
        refine wpAny_list_append_plain (items := its.toArray) ⟨k, pa.1⟩ (fun h' pl sb => ?_) (by rw [List.size_toArray]; omega)
        obtain ⟨k', pl⟩ := pl
        have keepIt : ∀ b ∈ fp, ∀ o, s6.heap.get? b = some o → h'.get? b = some o := fun b hb o e => by
          have nb : b ≠ s.heap.objs.size := Nat.ne_of_lt (hfl b hb)
          exact (sb.2 b nb).trans (I10.pin (b, o) (List.mem_append_right _ (List.mem_append_right _ (mem_pinsAt hb e)))).1
        have I11 : Inv X' [] (subσ sub σ) H9 s9 := I10.pins_of fun p hp => absurd hp (by simp)
        have sacc : s.heap.objs.size ≠ X'.env.locals := pa.2.2.1
        have I12 : Inv X' [] (subσ sub σ) H9 { s9 with heap := h' } := I11.turned (t' := s9.toks) (it := s.heap.objs.size) (fun b o hb e => (sb.2 b hb).trans e) pa.2.1 sacc (.inr (by rw [x0]; exact Nat.le_refl _))
          (fun y c hy z => by
            obtain ⟨w', o', ho', hd'⟩ := I10.cell y c hy
            rw [z, pa.1] at ho'
            have z2 := Option.some.inj ho'
            rw [← z2] at hd'
            cases hd') (fun p hp => absurd hp (by rw [xpn]; simp))
        refine ⟨m', hm', i + 1, ys ++ [v], H9, its ++ [vv], k', I12.pins_of (fun p hp => ?_), rv.append (.cons r9 .nil), by rw [List.length_append, List.length_singleton]; omega, T.keep _ _ _ st6 keepIt, fun b hb => ?_, w9⟩
        · rw [List.mem_singleton] at hp
          subst hp
          refine ⟨?_, pa.2.1, sacc, pa.2.2.2.1, fun v z => by cases z⟩
          show h'.get? s.heap.objs.size = _
          rw [pl]
          simp
        · obtain ⟨o, e, d⟩ := T.obj _ _ st6 b hb
          exact (I10.pin (b, o) (List.mem_append_right _ (List.mem_append_right _ (mem_pinsAt hb e)))).2.1
  exact codeAny_compStart_list (loop _ rfl) (T.self _ 0 _ _ _ st0 (loop _ rfl))
end
end L2
namespace L2
open PySem PySem.Spec PyProof.Rows
def tComp (sub : List (Option Nat)) (wi : TI) (g : TG) (tt : TT) (te : TE) : TE := fun σ H Q => wi σ H fun J H1 =>
  cTurns J (subσ sub σ) g tt te (fun ys H' => ∀ r, H' r = none → Q (.ref r) (upd H' r (.lst ys))) H1
section
variable {X : Cx} {target iter elt : Expr} {ifs : List Expr} {scope : Scope} {pos : Pos} {N' : List Str} {sub : List (Option Nat)} {wi : TI} {g : TG} {tt : TT} {te : TE}
theorem clos_of {pins : List (Addr × Obj)} {σ : St} {H : Hp} {s : Shared} (I : Inv X pins σ H s) (O : CmpOk X.N X.env.scope N' scope sub) : closureFor scope X.env = pure (closL X.env.cells scope.names []) :=
  closureFor_eq fun x hx hf => I.ok.has x.1 (by rcases O.free x hx hf with z | z; exact .inl z; exact .inr z)
theorem names_of (O : CmpOk X.N X.env.scope N' scope sub) : ∀ y ∈ scope.names, y.2 = .local → scope.names.lookup y.1 = some .local := fun y hy e => by
  obtain ⟨n, k⟩ := y
  cases e
  exact lookup_mem_nd O.nd hy
theorem pe_comp (hc : X.calm = true) (O : CmpOk X.N X.env.scope N' scope sub) (hi : PI X target iter wi)
    (B : ∀ C s H fp, PG (cmpOf X scope N' C s H fp) target g ∧ PTs (cmpOf X scope N' C s H fp) ifs tt ∧ PE (cmpOf X scope N' C s H fp) elt te)
    (hs : ∀ x, foldedSetIterable iter X.env x = pure x := by intro _; rfl) : PE X (.ListComp elt [⟨target, iter, ifs, 0⟩] scope pos) (tComp sub wi g tt te) := by
  intro pins s σ H Q I h
  rw [eval_ListComp]
  refine wpAny_comprehension_free (use := none) rfl hs (clos_of I O) O.kind (names_of O) (thn (hi pins s σ H _ I h) fun v s1 h1 => thn h1 fun itv s2 h2 => ?_)
  obtain ⟨it, fp, tn, J, H2, e, I2, T, st2, f2, rd⟩ := h2
  subst e
  refine comp_core (RR := fun acc C => compPost (model X.prog X.w) X.A X.xe none (EP X pins σ Q) acc C) hc I2 O T st2 f2 B rd fun acc C ys H' s' I' fC hn na q => ?_
  obtain ⟨m, hn⟩ := hn
  obtain ⟨f0, f1, f3, f4, f5, f6⟩ := fC
  refine ⟨m, hn, fun h' sb => ?_⟩
  exact ⟨.ref acc, upd H' acc (.lst ys), I'.turned (t' := s'.toks) (it := C) (fun b o hb e => (sb.2 b hb).trans e) f0 f1 f4 f5 f6, rfl, q acc na⟩
end
section
variable {σ0 : St} {g : TG} {tt : TT} {te : TE} {Q : List V → Hp → Prop} {H1 : Hp}
def Nxt (n i : Nat) (Pv : Nat → List V → Hp → Prop) (ys : List V) (H : Hp) : Prop := ∃ m', m' < n - i ∧ m' = n - (i + 1) ∧ i + 1 ≤ n ∧ Pv (i + 1) ys H
theorem nxt {n i : Nat} {Pv : Nat → List V → Hp → Prop} {ys : List V} {H : Hp} (hi : i < n) (h : Pv (i + 1) ys H) : Nxt n i Pv ys H := ⟨_, by omega, rfl, hi, h⟩
theorem turns_list {K : PySem.W.Frag} {a : Addr} {xs : List V} (Pv : Nat → List V → Hp → Prop) (h0 : Pv 0 [] H1) (hl : ∀ i ys H, i ≤ xs.length → Pv i ys H → SqL K H a xs)
    (hs : ∀ i x ys H, xs[i]? = some x → Pv i ys H → g x σ0 H fun σ2 H2 => Sle σ0 σ2 ∧ tt σ2 H2 fun b H3 => if b = true then te σ2 H3 (fun v H4 => ys.length < sizeLine ∧ Nxt xs.length i Pv (ys ++ [v]) H4) else Nxt xs.length i Pv ys H3)
    (hd : ∀ ys H, Pv xs.length ys H → Q ys H) : cTurns (Itl K a) σ0 g tt te Q H1 := by
  refine ⟨fun i m ys H => m = xs.length - i ∧ i ≤ xs.length ∧ Pv i ys H, ⟨xs.length, by simp, Nat.zero_le _, h0⟩, ?_⟩
  rintro i m ys H ⟨rfl, hi, p⟩
  have q := hl i ys H hi p
  by_cases hlt : i < xs.length
  · refine .inr ⟨⟨xs, xs[i], q, by simp [hlt]⟩, fun x H' y => ?_⟩
    obtain ⟨e, y⟩ := y
    subst e
    exact hs i x ys _ (y xs q) p
  · have e : i = xs.length := by omega
    subst e
    exact .inl ⟨⟨xs, q, Nat.le_refl _⟩, hd ys H p⟩
theorem turns_range {lo : Int} {n : Nat} (Pv : Nat → List V → Hp → Prop) (h0 : Pv 0 [] H1)
    (hs : ∀ i ys H, i < n → Pv i ys H → g (.int (lo + i)) σ0 H fun σ2 H2 => Sle σ0 σ2 ∧ tt σ2 H2 fun b H3 => if b = true then te σ2 H3 (fun v H4 => ys.length < sizeLine ∧ Nxt n i Pv (ys ++ [v]) H4) else Nxt n i Pv ys H3)
    (hd : ∀ ys H, Pv n ys H → Q ys H) : cTurns (Itr lo n) σ0 g tt te Q H1 := by
  refine ⟨fun i m ys H => m = n - i ∧ i ≤ n ∧ Pv i ys H, ⟨n, by simp, Nat.zero_le _, h0⟩, ?_⟩
  rintro i m ys H ⟨rfl, hi, p⟩
  by_cases hlt : i < n
  · refine .inr ⟨hlt, fun x H' y => ?_⟩
    obtain ⟨e, y⟩ := y
    subst e y
    exact hs i ys _ hlt p
  · have e : i = n := by omega
    subst e
    exact .inl ⟨Nat.le_refl _, hd ys H p⟩
end
end L2
namespace L2
open PySem PySem.Spec PyProof.Rows PySem.SeqAt
mutual
inductive DR (K : PySem.W.Frag) (H : Hp) : V → PyData → Prop
  | non : DR K H .non .none
  | bl (b : Bool) : DR K H (.bl b) (.bool b)
  | int (i : Int) : DR K H (.int i) (.int i)
  | str (x : Str) : DR K H (.str x) (.str x)
  | lst {a : Addr} {xs : List V} {ds : List PyData} : SqL K H a xs → DRs K H xs ds → DR K H (.ref a) (.list ds)
  | tup {a : Addr} {xs : List V} {ds : List PyData} : SqT K H a xs → DRs K H xs ds → DR K H (.ref a) (.tuple ds)
inductive DRs (K : PySem.W.Frag) (H : Hp) : List V → List PyData → Prop
  | nil : DRs K H [] []
  | cons {v : V} {d : PyData} {vs : List V} {ds : List PyData} : DR K H v d → DRs K H vs ds → DRs K H (v :: vs) (d :: ds)
end
section
variable {X : Cx} {pins : List (Addr × Obj)} {σ : St} {H : Hp} {s : Shared}
mutual
theorem DR.reads (I : Inv X pins σ H s) : ∀ {v : V} {d : PyData} {u : Value}, DR X.K H v d → RelV v u → ∃ as, Reads s.heap u d as
  | _, _, _, .non, r => by cases r; exact ⟨_, .none⟩
  | _, _, _, .bl b, r => by cases r; exact ⟨_, .bool b⟩
  | _, _, _, .int i, r => by obtain ⟨t, rfl⟩ := r; exact ⟨_, .int i t⟩
  | _, _, _, .str x, r => by obtain ⟨t, rfl⟩ := r; exact ⟨_, .str x t⟩
  | _, _, _, .lst hq hd, r => by
    cases r
    obtain ⟨its, rv, ⟨o, n, e, c, _, dt⟩, _⟩ := I.list hq
    obtain ⟨as, ra⟩ := DRs.reads I hd rv
    exact ⟨_, .list e c dt ra⟩
  | _, _, _, .tup hq hd, r => by
    cases r
    obtain ⟨its, rv, ⟨o, e, c, n, dt⟩, _⟩ := I.tuple hq
    obtain ⟨as, ra⟩ := DRs.reads I hd rv
    exact ⟨_, .tuple e c dt ra⟩
theorem DRs.reads (I : Inv X pins σ H s) : ∀ {vs : List V} {ds : List PyData} {us : List Value}, DRs X.K H vs ds → Vals vs us → ∃ as, ReadsAll s.heap us ds as
  | _, _, _, .nil, r => by cases r; exact ⟨_, .nil⟩
  | _, _, _, .cons h t, r => by
    cases r with
    | cons r rr =>
      obtain ⟨a1, q1⟩ := DR.reads I h r
      obtain ⟨a2, q2⟩ := DRs.reads I t rr
      exact ⟨_, .cons q1 q2⟩
end
end
def rEqD (K : PySem.W.Frag) (neg : Bool) : R2 := fun x y H Q => ∃ dx dy, DR K H x dx ∧ DR K H y dy ∧ shaped dx = true ∧ shaped dy = true ∧ Q (.bl (if neg then !PyData.eqv dx dy else PyData.eqv dx dy)) H
section
variable {X : Cx}
theorem op_neD (hu : X.A.units + 64 < cLine) : OpR X (compareOp .NotEq) (rEqD X.K true) := by
  intro pins s σ H x y v u Q I rx ry h
  obtain ⟨dx, dy, hx, hy, sx, sy, q⟩ := h
  obtain ⟨a1, r1⟩ := DR.reads I hx rx
  obtain ⟨a2, r2⟩ := DR.reads I hy ry
  exact ne_dataH r1 r2 sx sy hu ⟨.bl (!PyData.eqv dx dy), H, I, rfl, q⟩
theorem strsAre_of {ss : List Str} : ∀ {us : List Value}, Vals (ss.map V.str) us → StrsAre us ss := by
  induction ss with
  | nil => intro us r; cases r; exact .nil
  | cons a l ih =>
    intro us r
    cases r with
    | cons r rr =>
      obtain ⟨t, rfl⟩ := r
      exact .cons a t (ih rr)
theorem of_strsAre {ss : List Str} : ∀ {us : List Value}, StrsAre us ss → Vals (ss.map V.str) us := by
  induction ss with
  | nil => intro us r; cases r; exact .nil
  | cons a l ih =>
    intro us r
    cases r with
    | cons _ _ r => exact .cons ⟨_, rfl⟩ (ih r)
theorem call_sortedS : CallR X (.builtin "sorted") (fun xs H Q => ∃ p ss, xs = [.ref p] ∧ SqL X.K H p (ss.map V.str) ∧ ss.length < 64 ∧ ∀ r ss', H r = none → ss'.Perm ss → sortedS ss' = true → Q (.ref r) (upd H r (.lst (ss'.map V.str)))) := by
  intro pins s σ H xs us Q I r h
  obtain ⟨p, ss, rfl, hq, h64, q⟩ := h
  obtain ⟨u, rfl, rx⟩ := vals1 r
  cases rx
  obtain ⟨its, rv, pl, hz⟩ := I.list hq
  have hl := rv.length
  rw [List.length_map] at hl
  refine sorted_strs pl.isList (strsAre_of rv) (by omega) fun out ss' h1 h2 h3 => ?_
  obtain ⟨e, he⟩ := sortedAll_at s.heap its out
  have nz : H (s.heap.objs.size + 1) = none := I.hok.fresh (Nat.le_succ _)
  refine ⟨.ref (s.heap.objs.size + 1), _, I.laid (t' := s.toks) (a := s.heap.objs.size + 1) (o := .lst (ss'.map V.str)) (fun b o eb => sortedAll_old eb) (Nat.le_succ _) ?_, rfl, q _ ss' nz h2 h3⟩
  refine ⟨?_, out.toList, e, of_strsAre h1, by simpa using he⟩
  rw [List.length_map, h2.length_eq]
  exact Nat.le_of_lt (small1000 (by omega))
end
end L2
namespace L2
open PySem PySem.Spec PyProof.Rows
section
variable {X : Cx}
theorem sl_str : SlR X (fun x lo hi H Q => ∃ z : Str, x = .str z ∧ z.length ≤ sizeLine ∧ Q (.str (Txt.slice z lo hi)) H) := by
  intro pins s σ H x v vl vu lo hi sl Q I rx hs pl pu h
  obtain ⟨z, rfl, hz, q⟩ := h
  obtain ⟨t, rfl⟩ := rx
  refine ⟨"str", _, F.slot_str_getitem.lookup, typeIs_str _ _ _, ?_⟩
  obtain ⟨o, ho, hc, hd⟩ := hs
  have fin : ∀ t' k, EP X pins σ Q (.str (Txt.slice z lo hi) t') { s with toks := k } := fun t' k => ⟨.str (Txt.slice z lo hi), H, I.tok k, ⟨t', rfl⟩, q⟩
  cases pl with
  | none =>
    cases pu with
    | none => exact wpAny_getItem_str_slice (l := none) (u := none) (st := none) ⟨o, ho, hc, hd⟩ rfl (post_val_or_str ⟨Nat.le_trans (Txt.slice_le z _ _) hz, fin⟩)
    | int j uj => exact wpAny_getItem_str_slice (l := none) (u := some (j, uj)) (st := none) ⟨o, ho, hc, hd⟩ rfl (post_val_or_str ⟨Nat.le_trans (Txt.slice_le z _ _) hz, fin⟩)
  | int i ui =>
    cases pu with
    | none => exact wpAny_getItem_str_slice (l := some (i, ui)) (u := none) (st := none) ⟨o, ho, hc, hd⟩ rfl (post_val_or_str ⟨Nat.le_trans (Txt.slice_le z _ _) hz, fin⟩)
    | int j uj => exact wpAny_getItem_str_slice (l := some (i, ui)) (u := some (j, uj)) (st := none) ⟨o, ho, hc, hd⟩ rfl (post_val_or_str ⟨Nat.le_trans (Txt.slice_le z _ _) hz, fin⟩)
theorem mulOk_small {x : Str} {n : Int} (h1 : x.length ≤ 100) (h2 : 0 ≤ n) (h3 : n ≤ 100) : PySem.MulOk x n := by
  refine ⟨?_, fun h _ => ?_, fun h _ => ?_⟩
  · rw [Bool.or_eq_false_iff]
    exact ⟨decide_eq_false (by omega), decide_eq_false (by omega)⟩
  · have e : ((2 ^ 63 - 1 : Int) / n) ≥ 100 := by
      apply Int.le_ediv_of_mul_le (by omega)
      omega
    omega
  · unfold Builtin.Str.tooLong
    have : x.length * n.toNat ≤ 100 * 100 := Nat.mul_le_mul h1 (by omega)
    exact decide_eq_false (by have : sizeLine > 10000 := by decide
                              omega)
theorem op_mul_str : OpR X (binaryOp .Mult) (fun x y H Q => ∃ (z : Str) (n : Int), x = .str z ∧ y = .int n ∧ z.length ≤ 100 ∧ 0 ≤ n ∧ n ≤ 100 ∧ Q (.str (Txt.mul z n)) H) := by
  intro pins s σ H x y v u Q I rx ry h
  obtain ⟨z, n, rfl, rfl, h1, h2, h3, q⟩ := h
  obtain ⟨t, rfl⟩ := rx
  obtain ⟨t', rfl⟩ := ry
  exact SB.mul (mulOk_small h1 h2 h3) fun t' k => ⟨.str (Txt.mul z n), H, I.tok k, ⟨t', rfl⟩, q⟩
theorem call_isinst : CallR X (.builtin "isinstance") (fun xs H Q => ∃ x t c b, xs = [x, .ty c] ∧ TyOf X.K H x t ∧ PySem.W.kitOne X.K t (.type c) = some b ∧ Q (.bl b) H) := by
  intro pins s σ H xs us Q I r h
  obtain ⟨x, t, c, b, rfl, ty, e, q⟩ := h
  obtain ⟨u, w', rfl, rx, rc⟩ := vals2 r
  cases (show w' = Value.type c from rc)
  exact isinst_ok I rx ty e fun tk => ⟨.bl b, H, I.tok tk, rfl, q⟩
end
end L2
namespace L2
open PySem PySem.Spec PyProof.Rows
section
variable {X : Cx}
theorem getD_all (bs : List Bool) (d : Bool) : (List.range bs.length).all (fun i => bs.getD i d) = bs.all id := by
  induction bs with
  | nil => rfl
  | cons b r ih =>
    rw [List.length_cons, List.range_succ_eq_map, List.all_cons, List.all_map, List.all_cons]
    have e : ((fun i => (b :: r).getD i d) ∘ Nat.succ) = fun i => r.getD i d := by
      funext i; simp
    rw [e, ih]
    simp
theorem getD_any (bs : List Bool) (d : Bool) : (List.range bs.length).any (fun i => bs.getD i d) = bs.any id := by
  induction bs with
  | nil => rfl
  | cons b r ih =>
    rw [List.length_cons, List.range_succ_eq_map, List.any_cons, List.any_map, List.any_cons]
    have e : ((fun i => (b :: r).getD i d) ∘ Nat.succ) = fun i => r.getD i d := by
      funext i; simp
    rw [e, ih]
    simp
theorem truths {P : Program} {w : World} {A : Around} {bs : List Bool} {its : List Value} (rv : Vals (bs.map V.bl) its) (d : Bool) : TruthOf P w A (fun i v => its.toArray[i]? = some v) (fun i => bs.getD i d) := by
  intro i v s Q E hv hQ
  have hv' : its[i]? = some v := by simpa using hv
  have hi : i < its.length := (List.getElem?_eq_some_iff.mp hv').1
  have hl := rv.length
  rw [List.length_map] at hl
  have hb : (bs.map V.bl)[i]? = some (V.bl bs[i]) := by rw [List.getElem?_map, List.getElem?_eq_getElem (by omega)]; rfl
  obtain ⟨u, hu, ru⟩ := rv.get hb
  rw [hv'] at hu
  have e : v = Value.bool bs[i] := (Option.some.inj hu).trans ru
  rw [e]
  have e2 : bs.getD i d = bs[i] := by rw [List.getD_eq_getElem?_getD, List.getElem?_eq_getElem (by omega)]; rfl
  have hQ : Q (bs.getD i d) s := hQ
  rw [e2] at hQ
  exact wpAny_truthy_bool hQ
theorem call_allB (hc : X.calm = true) : CallR X (.builtin "all") (fun xs H Q => ∃ (p : Addr) (bs : List Bool), xs = [.ref p] ∧ SqL X.K H p (bs.map V.bl) ∧ Q (.bl (bs.all id)) H) := by
  intro pins s σ H xs us Q I r h
  obtain ⟨p, bs, rfl, hq, q⟩ := h
  obtain ⟨u, rfl, rx⟩ := vals1 r
  cases rx
  obtain ⟨its, rv, pl, hz⟩ := I.list hq
  have hl := rv.length
  rw [List.length_map] at hl
  have hne : p ≠ s.heap.objs.size := by
    obtain ⟨o, n, e, _⟩ := pl
    exact Nat.ne_of_lt (Heap.lt_size e)
  have hh := I.ok.hd hc
  refine call_all_walk (wpAny_pyIter_list pl.isList ?_)
  refine ⟨s.heap.objs.size, _, _, _, _, _, fun i => bs.getD i true, rfl, Walks.list (by exact hh) _ p hne its.toArray, ⟨⟨_, Heap.get?_push_size _ rfl, rfl, rfl⟩, pl.isList.at fun o e => Heap.get?_push_of_some _ e⟩, truths rv true, fun h' tk hk => ?_⟩
  refine ⟨.bl (bs.all id), H, I.kept (t' := tk) fun b o e => hk b o ?_ (Heap.get?_push_of_some _ e), ?_, q⟩
  · intro z
    rw [List.mem_singleton] at z
    exact absurd (Heap.lt_size e) (by rw [z]; exact Nat.lt_irrefl _)
  · show Value.bool _ = Value.bool _
    rw [List.size_toArray, ← hl, getD_all]
theorem call_anyB (hc : X.calm = true) : CallR X (.builtin "any") (fun xs H Q => ∃ (p : Addr) (bs : List Bool), xs = [.ref p] ∧ SqL X.K H p (bs.map V.bl) ∧ Q (.bl (bs.any id)) H) := by
  intro pins s σ H xs us Q I r h
  obtain ⟨p, bs, rfl, hq, q⟩ := h
  obtain ⟨u, rfl, rx⟩ := vals1 r
  cases rx
  obtain ⟨its, rv, pl, hz⟩ := I.list hq
  have hl := rv.length
  rw [List.length_map] at hl
  have hne : p ≠ s.heap.objs.size := by
    obtain ⟨o, n, e, _⟩ := pl
    exact Nat.ne_of_lt (Heap.lt_size e)
  have hh := I.ok.hd hc
  refine call_any_walk (wpAny_pyIter_list pl.isList ?_)
  refine ⟨s.heap.objs.size, _, _, _, _, _, fun i => bs.getD i true, rfl, Walks.list (by exact hh) _ p hne its.toArray, ⟨⟨_, Heap.get?_push_size _ rfl, rfl, rfl⟩, pl.isList.at fun o e => Heap.get?_push_of_some _ e⟩, truths rv true, fun h' tk hk => ?_⟩
  refine ⟨.bl (bs.any id), H, I.kept (t' := tk) fun b o e => hk b o ?_ (Heap.get?_push_of_some _ e), ?_, q⟩
  · intro z
    rw [List.mem_singleton] at z
    exact absurd (Heap.lt_size e) (by rw [z]; exact Nat.lt_irrefl _)
  · show Value.bool _ = Value.bool _
    rw [List.size_toArray, ← hl, getD_any]
end
end L2
namespace L2
open PySem PySem.Spec PyProof.Rows
theorem orstand_led (t : SetTable) (n : Nat) : (t.orStandIn n).led = t.led := by
  unfold SetTable.orStandIn
  split <;> rfl
theorem laynew_led (t : SetTable) (es : Array (Int × Value)) (h : Int) (x : Value) : (layNew t es h x).2.1.led = t.led := by
  unfold layNew
  split
  · exact orstand_led _ _
  · rfl
theorem relay_led (t : SetTable) (es : Array (Int × Value)) (k : Nat) : (relayAll t es k).2.1.led = t.led := by
  unfold relayAll
  split
  · rename_i u order e
    have eu : u.led = t.led := by
      unfold SetTable.relaid SetTable.laid at e
      cases hc : SetTable.layClean (SetTable.sizeAbove k - 1) (es.map (·.1)) with
      | none => rw [hc] at e; cases e
      | some o =>
        rw [hc] at e
        injection e with e
        injection e with e1 e2
        rw [← e1]
    dsimp only
    split
    · exact eu
    · rfl
  · rfl
theorem relay_plain (t : SetTable) (es : Array (Int × Value)) (k : Nat) (hp : t.plain = false) : (relayAll t es k).2.1.plain = false := by
  unfold relayAll
  split
  · rename_i u order e
    have eu : u.plain = t.plain := by
      unfold SetTable.relaid SetTable.laid at e
      cases hc : SetTable.layClean (SetTable.sizeAbove k - 1) (es.map (·.1)) with
      | none => rw [hc] at e; cases e
      | some o =>
        rw [hc] at e
        injection e with e
        injection e with e1 e2
        rw [← e1]
    dsimp only
    split
    · exact eu.trans hp
    · rfl
  · rfl
def StrSet (P : Program) (w : World) (h : Heap) (a : Addr) (ss : List Str) : Prop :=
  ∃ (es : Array (Int × Value)) (ep : Nat) (t : SetTable), h.get? a = some { cls := .type "set", dict := none, data := .set es ep t, slots := #[] } ∧ ElemsOf (PySem.strKind P w) es.toList ∧
    StrsAre (es.toList.map (·.2)) ss ∧ es.size < scanBound ∧ t.fits es.size = true ∧ t.led = !w.params.followText "set-order" ∧ (es.size ≠ 0 → t.plain = false)
theorem strs_mem {x : Str} : ∀ {vs : List Value} {ss : List Str}, StrsAre vs ss → ((∃ v ∈ vs, Value.isStrOf x v = true) ↔ x ∈ ss)
  | _, _, .nil => by simp
  | _, _, .cons y t r => by
    have ih := strs_mem (x := x) r
    have hy : Value.isStrOf x (.str y t) = true ↔ x = y := by
      constructor
      · intro h
        obtain ⟨u, e⟩ := Value.isStrOf_shape h
        cases e; rfl
      · rintro rfl; simp [Value.isStrOf]
    constructor
    · rintro ⟨v, hv, hp⟩
      rcases List.mem_cons.mp hv with rfl | hv
      · rw [hy.mp hp]; exact List.mem_cons_self
      · exact List.mem_cons_of_mem _ (ih.mp ⟨v, hv, hp⟩)
    · intro h
      rcases List.mem_cons.mp h with h | h
      · exact ⟨_, List.mem_cons_self, hy.mpr h⟩
      · obtain ⟨v, hv, hp⟩ := ih.mpr h
        exact ⟨v, List.mem_cons_of_mem _ hv, hp⟩
theorem strs_perm {es es1 : List (Int × Value)} {ss : List Str} {k : Int} {x : Str} {t : Tok} (hS : StrsAre (es.map (·.2)) ss) (p : es1.Perm (es ++ [(k, .str x t)])) : ∃ ss1, StrsAre (es1.map (·.2)) ss1 ∧ ss1.Perm (ss ++ [x]) := by
  have hall : ∀ v, v ∈ es1.map (·.2) → ∃ y u, v = .str y u := by
    intro v hv
    obtain ⟨e, he, rfl⟩ := List.mem_map.mp hv
    rcases List.mem_append.mp (p.mem_iff.mp he) with z | z
    · exact hS.all _ (List.mem_map_of_mem z)
    · rw [List.mem_singleton] at z; subst z; exact ⟨x, t, rfl⟩
  refine ⟨_, strsAre_map _ hall, ?_⟩
  have q := (p.map (·.2)).map strOf
  rw [List.map_append, List.map_append, hS.strs] at q
  exact q
theorem strs_perm' {es es1 : List (Int × Value)} {ss : List Str} (hS : StrsAre (es.map (·.2)) ss) (p : es1.Perm es) : ∃ ss1, StrsAre (es1.map (·.2)) ss1 ∧ ss1.Perm ss := by
  have hall : ∀ v, v ∈ es1.map (·.2) → ∃ y u, v = .str y u := by
    intro v hv
    obtain ⟨e, he, rfl⟩ := List.mem_map.mp hv
    exact hS.all _ (List.mem_map_of_mem (p.mem_iff.mp he))
  refine ⟨_, strsAre_map _ hall, ?_⟩
  have q := (p.map (·.2)).map strOf
  rw [hS.strs] at q
  exact q
section
variable {P : Program} {w : World} {A : Around} {E : Value → Shared → Prop} {s : Shared} {a : Addr} {ss : List Str}
theorem tset_store {es es' : Array (Int × Value)} {ep : Nat} {t t' : SetTable} (ho : s.heap.get? a = some { cls := .type "set", dict := none, data := .set es ep t, slots := #[] }) :
    (s.heap.update a (Obj.putSet es' t')).get? a = some { cls := .type "set", dict := none, data := .set es' (ep + 1) t', slots := #[] } := by
  have q := Heap.get?_update_self (Obj.putSet es' t') ho (by rw [putSet_of es' t' rfl]; rfl)
  rw [putSet_of es' t' rfl] at q
  exact q
theorem tset_tail {g : Bool → Sem Unit} (hg : ∀ (b : Bool) (s1 : Shared) (Q' : Unit → Shared → Prop), Q' () s1 → wpAny (model P w) A (g b) Q' E s1) {es es1 : Array (Int × Value)} {ep : Nat} {t t2 : SetTable} {ss1 : List Str}
    (ho : s.heap.get? a = some { cls := .type "set", dict := none, data := .set es ep t, slots := #[] }) (e1 : ElemsOf (PySem.strKind P w) es1.toList) (e2 : StrsAre (es1.toList.map (·.2)) ss1) (e3 : es1.size < scanBound) (e4 : t2.fits es1.size = true)
    (e5 : t2.led = !w.params.followText "set-order") (e6 : t2.plain = false) {wasD : Bool} {R : Option Bool → Shared → Prop} (h : ∀ h' ss', Heap.SameBut a s.heap h' → StrSet P w h' a ss' → ss'.Perm ss1 → R (some true) { s with heap := h' }) :
    wpAny (model P w) A (do
        storeSet a es1 t2
        if (!wasD && t2.tooFull) = true then do
            g (relayAll t2 es1 (SetTable.grown es1.size)).2.2
            storeSet a (relayAll t2 es1 (SetTable.grown es1.size)).1 (relayAll t2 es1 (SetTable.grown es1.size)).2.1
            pure (some true)
          else pure (some true)) R E s := by
  refine wpAny_bind (wpAny_storeSet_of ho rfl ?_ (fits_of_scanBound e3))
  have o1 : (s.heap.update a (Obj.putSet es1 t2)).get? a = _ := tset_store (s := s) ho
  have b1 := Heap.SameBut.update s.heap a (Obj.putSet es1 t2)
  split
  · have p := relayAll_perm t2 es1 (SetTable.grown es1.size)
    have f := relayAll_fits t2 es1 (SetTable.grown es1.size)
    have l := relay_led t2 es1 (SetTable.grown es1.size)
    have pl := relay_plain t2 es1 (SetTable.grown es1.size) e6
    generalize relayAll t2 es1 (SetTable.grown es1.size) = Rl at p f l pl ⊢
    obtain ⟨es2, t3, gv⟩ := Rl
    dsimp only at p f l pl ⊢
    have z2 : es2.size = es1.size := by rw [← Array.length_toList, p.length_eq, Array.length_toList]
    obtain ⟨ss2, q1, q2⟩ := strs_perm' e2 p
    refine wpAny_bind (hg _ _ _ (wpAny_bind (wpAny_storeSet_of o1 rfl ?_ (fits_of_scanBound (by rw [z2]; exact e3)))))
    have o2 : ((s.heap.update a (Obj.putSet es1 t2)).update a (Obj.putSet es2 t3)).get? a = _ := tset_store (s := { s with heap := s.heap.update a (Obj.putSet es1 t2) }) o1
    exact wpAny_pure (h _ ss2 (b1.trans (Heap.SameBut.update _ a _)) ⟨es2, _, t3, o2, e1.perm p, q1, by rw [z2]; exact e3, f, l.trans e5, fun _ => pl⟩ q2)
  · exact wpAny_pure (h _ ss1 b1 ⟨es1, _, t2, o1, e1, e2, e3, e4, e5, fun _ => e6⟩ (List.Perm.refl _))
theorem tset_add {x : Str} {tk : Tok} {Q : Bool → Shared → Prop} (hS : StrSet P w s.heap a ss) (room : ss.length + 1 < scanBound)
    (h : ∀ h' ss', Heap.SameBut a s.heap h' → StrSet P w h' a ss' → (if x ∈ ss then ss' = ss else ss'.Perm (ss ++ [x])) → Q (!decide (x ∈ ss)) { s with heap := h' }) :
    wpAny (model P w) A (setAddHashed a (.str x tk) ((PySem.strKind P w).hash x)) Q E s := by
  obtain ⟨es, ep, t, ho, e1, e2, e3, e4, e5, e6⟩ := hS
  have hk : (PySem.strKind P w).is x (.str x tk) = true := strKind_is P w x tk
  have hsc : Value.scannable (.str x tk) = true := rfl
  have hz : ss.length = es.size := by rw [← e2.strs, List.length_map, List.length_map, Array.length_toList]
  unfold setAddHashed setAddHashedIn
  refine wpAny_holding (wpAny_bind (wpAny_setState_of ho rfl e4 ?_))
  dsimp only
  rw [byScan_of hsc e3 e1, if_pos rfl]
  unfold setAddByScan
  refine wpAny_bind (wpAny_bind (wpAny_rule (wpAny_bind (wpAny_setScan_of hk ho rfl e4 e1 ?_))))
  cases hr : List.findIdx? (fun e => (PySem.strKind P w).is x e.2) es.toList with
  | some j =>
    dsimp only
    obtain ⟨hj, hp, _⟩ := List.findIdx?_eq_some_iff_getElem.mp hr
    have hm : x ∈ ss := (strs_mem e2).mp ⟨_, List.mem_map_of_mem (List.getElem_mem hj), hp⟩
    have q := h s.heap ss (Heap.SameBut.refl a _) ⟨es, ep, t, ho, e1, e2, e3, e4, e5, e6⟩ (by rw [if_pos hm])
    rw [decide_eq_true hm] at q
    exact wpAny_pure (wpAny_pure q)
  | none =>
    dsimp only
    have hm : ¬ x ∈ ss := fun z => by
      obtain ⟨v, hv, hp⟩ := (strs_mem e2).mpr z
      obtain ⟨e, he, rfl⟩ := List.mem_map.mp hv
      have q := List.findIdx?_eq_none_iff.mp hr e he
      rw [show (PySem.strKind P w).is x e.2 = true from hp] at q
      cases q
    have gw : ∀ (b : Bool) (s1 : Shared) (Q' : Unit → Shared → Prop), Q' () s1 → wpAny (model P w) A (match b with | true => rule "set.scan.the-table-gave-way" | false => pure ()) Q' E s1 := fun b s1 Q' hq => by
      cases b
      · exact wpAny_pure hq
      · exact wpAny_rule hq
    have p := layNew_perm t es ((PySem.strKind P w).hash x) (.str x tk)
    have f := layNew_fits t es ((PySem.strKind P w).hash x) (.str x tk)
    have l := laynew_led t es ((PySem.strKind P w).hash x) (.str x tk)
    generalize layNew t es ((PySem.strKind P w).hash x) (.str x tk) = L at p f l ⊢
    obtain ⟨es1, t1, wasD, gv⟩ := L
    dsimp only at p f l ⊢
    rw [Array.toList_push] at p
    have d1 : ElemsOf (PySem.strKind P w) es1.toList := (e1.push hk hsc).perm p
    obtain ⟨ss1, d2, d3⟩ := strs_perm e2 p
    have z1 : es1.size = es.size + 1 := by rw [← Array.length_toList, p.length_eq, List.length_append, Array.length_toList]; rfl
    have d4 : es1.size < scanBound := by rw [z1, ← hz]; exact room
    have fin : ∀ h' ss', Heap.SameBut a s.heap h' → StrSet P w h' a ss' → ss'.Perm ss1 → Q true { s with heap := h' } := fun h' ss' b1 b2 b3 => by
      have q := h h' ss' b1 b2 (by rw [if_neg hm]; exact b3.trans d3)
      rw [decide_eq_false hm] at q
      exact q
    refine wpAny_bind (gw _ _ _ ?_)
    split
    · rename_i hpl
      refine wpAny_bind ?_
      rw [hashByValue_scannable 8 hsc]
      refine wpAny_pure ?_
      refine tset_tail gw ho d1 d2 d4 (SetTable.fits_plain_off f) (l.trans e5) rfl fun h' ss' b1 b2 b3 => ?_
      exact wpAny_pure (fin h' ss' b1 b2 b3)
    · rename_i hpl
      refine wpAny_bind (wpAny_pure ?_)
      rw [if_pos rfl]
      refine tset_tail gw ho d1 d2 d4 f (l.trans e5) (by simpa using hpl) fun h' ss' b1 b2 b3 => ?_
      exact wpAny_pure (fin h' ss' b1 b2 b3)
end
end L2
namespace L2
open PySem PySem.Spec PyProof.Rows
theorem StrSet.at {P : Program} {w : World} {h h' : Heap} {a : Addr} {ss : List Str} (x : StrSet P w h a ss) (k : ∀ o, h.get? a = some o → h'.get? a = some o) : StrSet P w h' a ss := by
  obtain ⟨es, ep, t, ho, r⟩ := x
  exact ⟨es, ep, t, k _ ho, r⟩
def Once (val : Nat → Str) (i : Nat) (ss : List Str) : Prop := ss.Nodup ∧ ss.length ≤ i ∧ ∀ x, x ∈ ss ↔ ∃ j, j < i ∧ val j = x
theorem Once.zero (val : Nat → Str) : Once val 0 [] := ⟨List.nodup_nil, Nat.le_refl _, fun x => by simp⟩
theorem Once.next {val : Nat → Str} {i : Nat} {ss ss' : List Str} (h : Once val i ss) (e : if val i ∈ ss then ss' = ss else ss'.Perm (ss ++ [val i])) : Once val (i + 1) ss' := by
  obtain ⟨h1, h2, h3⟩ := h
  by_cases hm : val i ∈ ss
  · rw [if_pos hm] at e
    subst e
    refine ⟨h1, by omega, fun x => (h3 x).trans ⟨fun ⟨j, a, b⟩ => ⟨j, by omega, b⟩, fun ⟨j, a, b⟩ => ?_⟩⟩
    by_cases hj : j < i
    · exact ⟨j, hj, b⟩
    · have : j = i := by omega
      subst this
      subst b
      exact (h3 _).mp hm
  · rw [if_neg hm] at e
    refine ⟨e.nodup_iff.mpr ?_, ?_, fun x => ?_⟩
    · rw [List.nodup_append]
      exact ⟨h1, by simp, fun y hy z hz => by rw [List.mem_singleton] at hz; subst hz; rintro rfl; exact hm hy⟩
    · rw [e.length_eq, List.length_append]
      simpa using h2
    · rw [e.mem_iff, List.mem_append, h3 x, List.mem_singleton]
      constructor
      · rintro (⟨j, a, b⟩ | rfl)
        · exact ⟨j, by omega, b⟩
        · exact ⟨i, by omega, rfl⟩
      · rintro ⟨j, a, b⟩
        by_cases hj : j < i
        · exact .inl ⟨j, hj, b⟩
        · have : j = i := by omega
          subst this
          exact .inr b.symm
section
variable {P : Program} {w : World} {A : Around} {R : Result → Shared → Prop} {I : Addr} {fp wr : List Addr} {G : Array GenState → Array GenState → Prop} {n : Nat} {Pv : Nat → Value → Prop} {St : Nat → Shared → Prop}
theorem tset_loop (W : WalksS P w A.in1 I fp wr G n Pv St) (S : Addr) (nS : S ∉ fp) (val : Nat → Str) (hv : ∀ i v, Pv i v → ∃ t, v = .str (val i) t) (nb : n + 1 < scanBound) : ∀ (k i : Nat) (s : Shared) (ss : List Str), n - i = k → i ≤ n → St i s → StrSet P w s.heap S ss → Once val i ss →
    (∀ s' ss', Moved (S :: wr) G s s' → StrSet P w s'.heap S ss' → Once val n ss' → R (.ok (.ret .none)) s') → codeAny (model P w) A (.builtin "set.update.loop" ⟨[.ref S, .ref I], []⟩) R s := by
  have nw : S ∉ wr := fun z => nS (W.sub _ z)
  have sub : ∀ b ∈ wr, b ∈ S :: wr := fun b z => List.mem_cons_of_mem _ z
  intro k
  induction k with
  | zero =>
    intro i s ss hk hi st hS ho r
    have e : i = n := by omega
    subst e
    refine codeAny_builtin PyProof.Rows.F.entry_set_update_loop ?_
    rw [Around.under_plainId PyProof.Rows.F.plain_set_update_loop _]
    show wpAny _ A.in1 (pyNext (.ref I) >>= _) _ _ _
    refine wpAny_bind (W.done s _ _ st fun s1 m1 => wpAny_pure (r s1 ss (m1.mono sub) (hS.at fun o z => m1.heap S o nw z) ho))
  | succ k ih =>
    intro i s ss hk hi st hS ho r
    have lt : i < n := by omega
    refine codeAny_builtin PyProof.Rows.F.entry_set_update_loop ?_
    rw [Around.under_plainId PyProof.Rows.F.plain_set_update_loop _]
    show wpAny _ A.in1 (pyNext (.ref I) >>= _) _ _ _
    refine wpAny_bind (W.item i s _ _ lt st fun v s1 pv st1 m1 => ?_)
    obtain ⟨t, rfl⟩ := hv i v pv
    have hS1 : StrSet P w s1.heap S ss := hS.at fun o z => m1.heap S o nw z
    show wpAny _ A.in1 (holding [Value.str (val i) t] (setAdd S (.str (val i) t)) >>= _) _ _ s1
    refine wpAny_bind (wpAny_holding ?_)
    unfold setAdd
    refine wpAny_holding (wpAny_bind ((PySem.strKind P w).pyHash (strKind_is P w _ _) ?_))
    refine tset_add (s := { s1 with toks := s1.toks + 1 }) hS1 (by have := ho.2.1; omega) fun h2 ss2 sb2 hS2 q2 => ?_
    refine wpAny_pure ⟨plainId_quiet PyProof.Rows.F.plain_set_update_loop _, ih (i + 1) _ ss2 (by omega) lt (W.frame _ s1 _ _ st1 (Nat.le_succ _) fun b hb o e => ?_) hS2 (ho.next q2) fun s3 ss3 m3 hS3 o3 => ?_⟩
    · rw [sb2.2 b (fun z : b = S => nS (by rw [← z]; exact hb))]; exact e
    · refine r s3 ss3 (Moved.trans W.gtrans ((m1.mono sub).then_heap (Nat.le_succ _) fun b o hb e => ?_) m3) hS3 o3
      rw [sb2.2 b (fun z : b = S => hb (by rw [z]; exact List.mem_cons_self))]; exact e
end
section
variable {P : Program} {w : World} {A : Around} {E : Value → Shared → Prop} {s : Shared}
abbrev setO (w : World) : Obj := { cls := .type "set", dict := none, data := .set #[] 0 (.fresh 0 0 (!w.params.followText "set-order")), slots := #[] }
theorem setO_ok (P : Program) (w : World) {h : Heap} {a : Addr} (e : h.get? a = some (setO w)) : StrSet P w h a [] := ⟨#[], 0, _, e, fun e he => by simp at he, .nil, by show 0 < scanBound; decide, by rfl, rfl, fun z => absurd rfl z⟩
theorem code_setT (v : Value) {Q1 : Value → Shared → Prop} (h : Q1 (.ref s.heap.objs.size) { s with heap := s.heap.push (setO w) }) : codeAny (model P w) A (.call (.builtin "set.__new__") ⟨[.type "set", v], []⟩) (wants Q1 E) s := by
  refine codeAny_of_tree ?_
  show wpAny _ A.in1 (do checkBuiltinCall "set.__new__" ⟨[.type "set", v], []⟩; again (.builtin "set.__new__" ⟨[.type "set", v], []⟩)) _ _ s
  refine wpAny_bind (wpAny_of_eq (PySem.F.newCall_set_1 v) (wpAny_pure ⟨plainId_quiet PySem.F.plain_set_new _, codeAny_builtin PySem.F.entry_set_new ?_⟩))
  rw [Around.under_plainId PySem.F.plain_set_new _]
  unfold Builtin.«set.__new__» Builtin.Frozenset.newClass
  have hsub := sub_set_self
  obtain ⟨hp, g, d, tk, os⟩ := s
  dsimp only
  wp_walk
  refine wpAny_askSetting (wpAny_pure ?_)
  dsimp only
  simp only [newObj]
  exact wpAny_bind (wpAny_alloc (wpAny_pure (wpAny_pure h)))
set_option maxHeartbeats 3200000 in
theorem call_setT {l : Addr} {items : Array Value} {ss0 : List Str} {Q : Value → Shared → Prop} (hh : A.handled = none) (hl : s.heap.IsList l items) (hi : StrsAre items.toList ss0) (hb : items.size + 1 < scanBound)
    (h : ∀ (h' : Heap) (tk : Nat) (ss : List Str), StrSet P w h' s.heap.objs.size ss → Once (fun i => ss0.getD i default) items.size ss → (∀ b o, b < s.heap.objs.size → s.heap.get? b = some o → h'.get? b = some o) → Q (.ref s.heap.objs.size) { s with heap := h', toks := tk }) :
    wpAny (model P w) A (call (.type "set") [.ref l]) Q E s := by
  obtain ⟨c, tl, hmro⟩ := PySem.F.called_set.mro
  have hmade := PySem.F.called_set.made
  have hsub := PySem.F.called_set.sub
  refine wpAny_call (codeAny_of_tree ?_)
  show wpAny _ _ (callAny (.type "set") _) _ _ _
  refine wpAny_pure ⟨Code.quiet_builtin _ (by decide +kernel), codeAny_builtin PySem.F.entry_type_call ?_⟩
  rw [Around.under_plain (weight_type_call_type "set" [.ref l] []) rfl]
  have h1 := PySem.F.called_set.notType
  have h2 := PySem.F.called_set.canCreate
  have hct := PySem.F.typeCall_set_1 (.ref l)
  repeat (any_goals (first | assumption | wp_step))
  refine codeAny_mono (code_setT (.ref l) (E := E) (Q1 := fun obj s1 => obj = .ref s.heap.objs.size ∧ s1 = { s with heap := s.heap.push (setO w) }) ⟨rfl, rfl⟩) fun r s1 hr => ?_
  cases r with
  | error e => exact hr
  | ok fl =>
    cases fl with
    | ret obj =>
      obtain ⟨rfl, rfl⟩ := hr
      have hS : (s.heap.push (setO w)).get? s.heap.objs.size = some (setO w) := Heap.get?_push_size _ rfl
      have hT : Shared.TypeIs { s with heap := s.heap.push (setO w) } (.ref s.heap.objs.size) "set" := ⟨_, hS, rfl⟩
      have hli := PySem.F.called_set.init.lookup
      have hbi := PySem.F.called_set.init.bind (.ref s.heap.objs.size)
      repeat (any_goals (first | assumption | wp_step))
      refine codeAny_mono (codeAny_call_builtin (R := wants (fun r s2 => r = .none ∧ ∃ h' tk ss, s2 = { s with heap := h', toks := tk } ∧ StrSet P w h' s.heap.objs.size ss ∧ Once (fun i => ss0.getD i default) items.size ss ∧
          (∀ b o, b < s.heap.objs.size → s.heap.get? b = some o → h'.get? b = some o)) E) PySem.F.called_set.init.plain PySem.F.entry_set_init (check_set_init_1 hT ?_)) fun r2 s2 hr2 => ?_
      · obtain ⟨ol, hol, hcl, nl, hdl⟩ := hl
        obtain ⟨ocls, odict, odata, oslots⟩ := ol
        simp only at hcl hdl
        subst hcl; subst hdl
        have hol' : (s.heap.push (setO w)).get? l = some { cls := .type "list", dict := odict, data := .seq items nl, slots := oslots } := Heap.get?_push_of_some _ hol
        have hsls := PySem.F.sub_list_set
        have hslf := PySem.F.sub_list_frozenset
        have hne : (Value.type "list" == Value.type "dict") = false := by decide
        have hl1 : (s.heap.push (setO w)).IsList l items := ⟨_, hol', rfl, nl, rfl⟩
        unfold Builtin.«set.__init__» noKeywords Builtin.Frozenset.updateFrom
        generalize hPI : pyIter = PI
        wp_walk
        subst hPI
        refine wpAny_pyIter_list hl1 (wpAny_bind (wpAny_runValue ?_))
        have lS : l < s.heap.objs.size := Heap.lt_size hol
        have h3 : A.in1.in1.in1.handled = none := by simp [hh]
        have nI : l ≠ (s.heap.push (setO w)).objs.size := by
          rw [Heap.size_push]; exact Nat.ne_of_lt (Nat.lt_succ_of_lt lS)
        have nF : s.heap.objs.size ∉ [(s.heap.push (setO w)).objs.size, l] := by
          rw [Heap.size_push]; simp only [List.mem_cons, List.mem_singleton, List.not_mem_nil, or_false, not_or]
          exact ⟨Nat.ne_of_lt (Nat.lt_succ_self _), Nat.ne_of_gt lS⟩
        have hval : ∀ (i : Nat) (v : Value), items[i]? = some v → ∃ t, v = .str ((fun i => ss0.getD i default) i) t := fun i v hv => by
          have hv' : items.toList[i]? = some v := by rw [Array.getElem?_toList]; exact hv
          obtain ⟨x, t, rfl⟩ := hi.all v (List.mem_of_getElem? hv')
          refine ⟨t, ?_⟩
          have e := congrArg (fun z => z[i]?) hi.strs
          simp only [List.getElem?_map, hv'] at e
          show Value.str x t = Value.str (ss0.getD i default) t
          rw [List.getD_eq_getElem?_getD, ← e]
          rfl
        refine tset_loop ((Walks.list h3 _ l nI items).toS) s.heap.objs.size nF (fun i => ss0.getD i default) hval hb (items.size - 0) 0 _ [] (by omega) (Nat.zero_le _) ⟨⟨_, Heap.get?_push_size _ rfl, rfl, rfl⟩, (hl1.push _)⟩ (setO_ok P w (Heap.get?_push_of_some _ hS)) (Once.zero _) fun s' ss' hm hS' hO => ?_
        obtain ⟨h', g', d', tk', os'⟩ := s'
        cases (show g' = s.gens from hm.gens)
        cases (show d' = s.drawn from hm.drawn)
        cases (show os' = s.os from hm.os)
        show wpAny _ _ _ _ _ _
        refine wpAny_pure ?_
        show wpAny _ _ (ret Value.none) _ _ _
        refine wpAny_pure ⟨rfl, h', tk', ss', rfl, hS', hO, fun b o hb e => ?_⟩
        have b1 : b ≠ s.heap.objs.size := Nat.ne_of_lt hb
        have b2 : b ≠ (s.heap.push (setO w)).objs.size := by
          rw [Heap.size_push]; exact Nat.ne_of_lt (Nat.lt_succ_of_lt hb)
        exact hm.heap b o (by simp only [List.mem_cons, List.mem_singleton, List.not_mem_nil, or_false, not_or]; exact ⟨b1, b2⟩) (Heap.get?_push_of_some _ (Heap.get?_push_of_some _ e))
      · cases r2 with
        | error e => exact hr2
        | ok fl2 =>
          cases fl2 with
          | ret r =>
            obtain ⟨rfl, h', tk, ss, rfl, hS', hO, hk'⟩ := hr2
            repeat (any_goals (first | assumption | wp_step))
            exact h _ _ _ hS' hO hk'
          | _ => exact hr2.elim
    | _ => exact hr.elim
end
end L2
namespace L2
open PySem PySem.Spec PyProof.Rows
namespace FS
theorem entry_set_iter' : entryFor table "set.__iter__" = some Builtin.«frozenset.__iter__» := entryFor_alias (id' := "frozenset.__iter__") (by kernel_rfl) rfl (by decide +kernel) (by kernel_rfl)
theorem slot_sin : Slot "set_iterator" "__next__" "set_iterator.__next__" := .of (owner := "set_iterator") (n := "__next__") (by rw [typeLookup_type, builtinLookup_eq_fast]; kernel_rfl) (by decide +kernel) (by decide +kernel) (by decide +kernel) (by first | exact .inl (by decide +kernel) | exact .inr (by decide +kernel)) (by rw [isSubtype_type]; kernel_rfl)
theorem entry_sin : entryFor table "set_iterator.__next__" = some Builtin.«set_iterator.__next__» := entryFor_of_tree (by kernel_rfl)
theorem owner_si : Manifest.owners.lookup (String.ofList ['r', 'o', 't', 'a', 'r', 'e', 't', 'i', '_', 't', 'e', 's'].reverse) = some Manifest.sig_set_iterator := by kernel_rfl
theorem args_sin (a : Value) : argsOk "set_iterator.__next__" ⟨[a], []⟩ := by
  unfold argsOk; rw [signature?_of (id := "set_iterator.__next__") (n := ['_', '_', 't', 'x', 'e', 'n', '_', '_']) (o := ['r', 'o', 't', 'a', 'r', 'e', 't', 'i', '_', 't', 'e', 's']) (by kernel_rfl) owner_si]; kernel_rfl
theorem slot_sii : Slot "set_iterator" "__iter__" "set_iterator.__iter__" := .of (owner := "set_iterator") (n := "__iter__") (by rw [typeLookup_type, builtinLookup_eq_fast]; kernel_rfl) (by decide +kernel) (by decide +kernel) (by decide +kernel) (by first | exact .inl (by decide +kernel) | exact .inr (by decide +kernel)) (by rw [isSubtype_type]; kernel_rfl)
theorem entry_sii : entryFor table "set_iterator.__iter__" = some Builtin.«dict_keyiterator.__iter__» := entryFor_alias (id' := "dict_keyiterator.__iter__") (by kernel_rfl) (by first | rfl | decide +kernel | (unfold String.splitOn; simp +decide [String.splitOnAux])) (by decide +kernel) (by kernel_rfl)
theorem args_sii (a : Value) : argsOk "set_iterator.__iter__" ⟨[a], []⟩ := by
  unfold argsOk; rw [signature?_of (id := "set_iterator.__iter__") (n := ['_', '_', 'r', 'e', 't', 'i', '_', '_']) (o := ['r', 'o', 't', 'a', 'r', 'e', 't', 'i', '_', 't', 'e', 's']) (by kernel_rfl) owner_si]; kernel_rfl
end FS
theorem erase_perm {α : Type} : ∀ (l : List α) (i : Nat) (x : α), l[i]? = some x → (x :: l.eraseIdx i).Perm l
  | [], i, x, h => by simp at h
  | y :: l, 0, x, h => by simp at h; subst h; exact List.Perm.refl _
  | y :: l, i + 1, x, h => by
    have q := erase_perm l i x (by simpa using h)
    rw [List.eraseIdx_cons_succ]
    exact (List.Perm.swap y x _).trans (q.cons y)
section
variable {M : Model} {A : Around} {E : Value → Shared → Prop} {s : Shared}
theorem wp_choose {src : Source} {n : Nat} {Q : Nat → Shared → Prop} (hn : n ≠ 0) (h : ∀ i d, i < n → Q i { s with drawn := d }) : wpAny M A (choose src n) Q E s := fun Γ p _ => ⟨hn, h _ _ (Nat.mod_lt _ (Nat.pos_of_ne_zero hn))⟩
theorem wp_drawOrder {α : Type} : ∀ (n : Nat) (xs : List α) (s : Shared) (Q : List α → Shared → Prop), xs.length = n → (∀ ys d, ys.Perm xs → Q ys { s with drawn := d }) → wpAny M A (drawOrder n xs) Q E s
  | 0, xs, s, Q, hl, h => by
    have e : xs = [] := List.length_eq_zero_iff.mp hl
    subst e
    exact wpAny_pure (h [] s.drawn (List.Perm.refl _))
  | n + 1, [], s, Q, hl, h => by simp at hl
  | n + 1, y :: ys, s, Q, hl, h => by
    show wpAny M A (choose .order (y :: ys).length >>= _) Q E s
    refine wpAny_bind (wp_choose (by simp) fun i d hi => ?_)
    have e : (y :: ys)[i]? = some (y :: ys)[i] := List.getElem?_eq_getElem hi
    rw [e]
    dsimp only
    have p := erase_perm (y :: ys) i _ e
    refine wpAny_bind (wp_drawOrder n ((y :: ys).eraseIdx i) _ _ ?_ fun zs d2 pz => wpAny_pure (h _ d2 ((pz.cons _).trans p)))
    have := p.length_eq
    simp only [List.length_cons] at this hl ⊢
    omega
end
theorem pick_go {α : Type} (next : Nat → Nat) : ∀ (n k : Nat) (left : List α) (out : Array α), left.length = n → (pickOrder.go next n k left out).toList.Perm (out.toList ++ left)
  | 0, k, left, out, hl => by
    have e : left = [] := List.length_eq_zero_iff.mp hl
    subst e
    rw [pickOrder.go, List.append_nil]
  | n + 1, k, left, out, hl => by
    rw [pickOrder.go]
    have hi : next k % left.length < left.length := Nat.mod_lt _ (by omega)
    have e : left[next k % left.length]? = some left[next k % left.length] := List.getElem?_eq_getElem hi
    rw [e]
    dsimp only
    have p := erase_perm left _ _ e
    have l := p.length_eq
    simp only [List.length_cons] at l
    refine (pick_go next n (k + 1) _ _ (by omega)).trans ?_
    rw [Array.toList_push, List.append_assoc]
    exact List.Perm.append_left _ p
theorem pick_perm {α : Type} (next : Nat → Nat) (xs : Array α) : (pickOrder next xs).toList.Perm xs.toList := by
  have q := pick_go next xs.size 0 xs.toList #[] (by simp)
  simpa [pickOrder] using q
section
variable {P : Program} {w : World} {A : Around} {E : Value → Shared → Prop} {s : Shared} {a : Addr} {es : Array (Int × Value)} {ep : Nat} {t : SetTable}
theorem wp_setDrawn {Q : Bool → Shared → Prop} (ho : s.heap.get? a = some { cls := .type "set", dict := none, data := .set es ep t, slots := #[] }) (hf : t.fits es.size = true) (h : Q (!w.params.followText "set-order" && (!t.plain && decide (es.size > 1))) s) : wpAny (model P w) A (setDrawn a) Q E s := by
  unfold setDrawn
  refine wpAny_bind (wpAny_setState_of ho rfl hf ?_)
  unfold setsByText
  exact wpAny_bind (wpAny_bind (wpAny_askSetting (wpAny_pure (wpAny_pure h))))
theorem wp_setNextT {slot i : Nat} {Q : Option (Value × Nat) → Shared → Prop} (ho : s.heap.get? a = some { cls := .type "set", dict := none, data := .set es ep t, slots := #[] }) (hf : t.fits es.size = true) (hb : w.params.followText "set-order" = true)
    (h : Q (((pickOrder (w.params.setOrder a ep) es)[i]?).map fun e => (e.2, slot)) s) : wpAny (model P w) A (setNext a slot i ep) Q E s := by
  unfold setNext
  refine wpAny_bind (wpAny_setState_of ho rfl hf ?_)
  unfold setsByText
  refine wpAny_bind (wpAny_bind (wpAny_askSetting (wpAny_pure ?_)))
  show wpAny _ _ (if (w.params.followText "set-order") = true then _ else _) _ _ _
  rw [if_pos hb]
  rw [if_neg (by simp)]
  unfold setWalk
  refine wpAny_bind (wpAny_bind (wpAny_setState_of ho rfl hf ?_))
  unfold setsByText
  refine wpAny_bind (wpAny_bind (wpAny_askSetting (wpAny_pure ?_)))
  show wpAny _ _ (if (w.params.followText "set-order") = true then _ else _) _ _ _
  rw [if_pos hb]
  exact wpAny_bind (wpAny_askSetting (wpAny_pure (wpAny_pure h)))
theorem wp_setNext1 {slot i : Nat} {Q : Option (Value × Nat) → Shared → Prop} (ho : s.heap.get? a = some { cls := .type "set", dict := none, data := .set es ep t, slots := #[] }) (hf : t.fits es.size = true) (hb : w.params.followText "set-order" = false) (h1 : es.size ≤ 1) (hl : t.led = true)
    (h : Q (match es[SetTable.below t.place slot]?, t.place[SetTable.below t.place slot]? with | some (_, x), some j => some (x, j + 1) | _, _ => none) s) : wpAny (model P w) A (setNext a slot i ep) Q E s := by
  unfold setNext
  refine wpAny_bind (wpAny_setState_of ho rfl hf ?_)
  unfold setsByText
  refine wpAny_bind (wpAny_bind (wpAny_askSetting (wpAny_pure ?_)))
  show wpAny _ _ (if (w.params.followText "set-order") = true then _ else _) _ _ _
  rw [if_neg (by rw [hb]; exact Bool.false_ne_true)]
  show wpAny _ _ (if (!t.plain && decide (es.size > 1)) = true then _ else _) _ _ _
  rw [if_neg (by rw [Bool.and_eq_true]; rintro ⟨_, z⟩; have := of_decide_eq_true z; omega)]
  refine wpAny_bind ?_
  show wpAny _ _ (if (!t.led && !es.isEmpty) = true then _ else _) _ _ _
  rw [if_neg (by rw [hl]; simp)]
  exact wpAny_pure (wpAny_pure h)
end
end L2
namespace L2
open PySem PySem.Spec PyProof.Rows
abbrev sIt (a : Addr) (f0 : Value) (i n ep : Nat) : Obj := { cls := .type "set_iterator", dict := none, data := .fields #[f0, rawInt i, .ref a, rawInt n, rawInt ep], slots := #[] }
abbrev sOb (es : Array (Int × Value)) (ep : Nat) (t : SetTable) : Obj := { cls := .type "set", dict := none, data := .set es ep t, slots := #[] }
section
variable {P : Program} {w : World} {A : Around} {E : Value → Shared → Prop} {s : Shared} {a I : Addr} {es : Array (Int × Value)} {ep : Nat} {t : SetTable}
theorem sit_stop {T : Obj} {Q : Fin → Shared → Prop} {f0 : Value} {i n : Nat} {pre : Sem Unit} (hh : A.handled = none) (hI : s.heap.get? I = some (sIt a f0 i n ep))
    (hp : ∀ {Q' : Unit → Shared → Prop}, (∀ h1, Heap.SameBut I s.heap h1 → (∃ g0, h1.get? I = some (sIt a g0 i n ep)) → Q' () { s with heap := h1 }) → wpAny (model P w) A pre Q' E s)
    (hE : ∀ h' e, Heap.ExtBut I s.heap h' → (∃ o, h'.get? e = some o ∧ o.cls = .type "StopIteration") → E (.ref e) { s with heap := h' }) :
    wpAny (model P w) A (do pre; setField (.ref I) 2 .none; raiseNew (← newExc (.type "StopIteration") [])) Q E s := by
  refine wpAny_bind (hp fun h1 b1 hg => ?_)
  obtain ⟨g0, hI1⟩ := hg
  refine wpAny_bind (wpAny_setField_rec hI1 (by simp) fun h2 hI2 b2 => ?_)
  show wpAny _ _ (newExc (.type "StopIteration") [] >>= fun e => raiseNew e) _ _ _
  refine wpAny_bind ?_
  simp only [newExc, newTuple]
  refine wpAny_bind (wpAny_newObj_type ?_ (by size_fits))
  refine wpAny_bind (m := firstArgMember _ _) (wpAny_of_eq (a := Value.none) (by first | rfl | (simp only [firstArgMember]; rfl)) ?_)
  refine wpAny_newObj_type ?_ (by size_fits)
  simp only [raiseNew]
  refine wpAny_bind (wpAny_handled ?_)
  rw [hh]
  exact wpAny_bind (wpAny_pure (wpAny_throw (hE _ _ (((b1.trans b2).extBut.push _).push _) ⟨_, Heap.get?_push_size _ rfl, rfl⟩)))
end
section
variable {P : Program} {w : World} {a I : Addr} {es : Array (Int × Value)} {ep : Nat} {t : SetTable}
theorem walk_setI (hne : a ≠ I) (hf : t.fits es.size = true) (order : List Value) (sl : Nat → Nat)
    (nx : ∀ (A : Around) (E : Value → Shared → Prop) (s : Shared) (Q : Option (Value × Nat) → Shared → Prop) (i : Nat), i ≤ order.length → s.heap.get? a = some (sOb es ep t) → Q ((order[i]?).map fun x => (x, sl (i + 1))) s → wpAny (model P w) A (setNext a (sl i) i ep) Q E s) :
    ∀ A : Around, A.handled = none → Walks P w A I [I, a] [I] order.length (fun i v => order[i]? = some v) (fun i h => h.get? I = some (sIt a (rawInt (sl i)) i es.size ep) ∧ h.get? a = some (sOb es ep t)) := fun A hh => {
  sub := fun b hb => by simp at hb ⊢; exact .inl hb
  frame := fun i h h' st k => ⟨k I (by simp) _ st.1, k a (by simp) _ st.2⟩
  item := fun i s Q E hi st hQ => by
    obtain ⟨hI, ho⟩ := st
    have hT : s.TypeIs (.ref I) "set_iterator" := ⟨_, hI, rfl⟩
    unfold pyNext
    refine wpAny_bind (wpAny_attempt (wpAny_callSpecial?_slot (name := Str.ofString "__next__") hT FS.slot_sin (wpAny_call_entry FS.slot_sin hT FS.entry_sin ?_ (FS.args_sin _))))
    unfold Builtin.«set_iterator.__next__»
    refine wpAny_bind (wpAny_pure (wpAny_bind (wpAny_fieldsOf hI rfl ?_)))
    show wpAny _ _ (setEntries a >>= _) _ _ _
    refine wpAny_bind (wpAny_setEntries_of ho rfl hf ?_)
    rw [if_neg (by simp)]
    show wpAny _ _ (setNext a (sl i) i ep >>= _) _ _ _
    refine wpAny_bind (nx _ _ s _ i (Nat.le_of_lt hi) ho ?_)
    rw [List.getElem?_eq_getElem hi]
    show wpAny _ _ (setField (.ref I) 0 (rawInt (sl (i + 1))) >>= _) _ _ _
    refine wpAny_bind (wpAny_setField_rec hI (by simp) fun h1 hI1 b1 => wpAny_bind (wpAny_setField_rec hI1 (by simp) fun h2 hI2 b2 => ?_))
    refine wpAny_pure ⟨_, rfl, wpAny_pure (hQ _ h2 s.toks (List.getElem?_eq_getElem hi) ⟨hI2, ?_⟩ fun b o hb e => ?_)⟩
    · exact b2.extBut _ _ hne (b1.extBut _ _ hne ho)
    · have nb : b ≠ I := by simpa using hb
      exact b2.extBut _ _ nb (b1.extBut _ _ nb e)
  done := fun s Q E st hQ => by
    obtain ⟨hI, ho⟩ := st
    have hT : s.TypeIs (.ref I) "set_iterator" := ⟨_, hI, rfl⟩
    unfold pyNext
    refine wpAny_bind (wpAny_attempt (wpAny_callSpecial?_slot (name := Str.ofString "__next__") hT FS.slot_sin (wpAny_call_entry FS.slot_sin hT FS.entry_sin ?_ (FS.args_sin _))))
    unfold Builtin.«set_iterator.__next__»
    refine wpAny_bind (wpAny_pure (wpAny_bind (wpAny_fieldsOf hI rfl ?_)))
    show wpAny _ _ (setEntries a >>= _) _ _ _
    refine wpAny_bind (wpAny_setEntries_of ho rfl hf ?_)
    rw [if_neg (by simp)]
    show wpAny _ _ (setNext a (sl order.length) order.length ep >>= _) _ _ _
    refine wpAny_bind (nx _ _ s _ order.length (Nat.le_refl _) ho ?_)
    rw [List.getElem?_eq_none (Nat.le_refl _)]
    refine sit_stop (pre := pure ()) (T := sOb es ep t) (by exact hh) hI (fun q => wpAny_pure (q _ (Heap.SameBut.refl ..) ⟨_, hI⟩)) fun h' e k he => ?_
    obtain ⟨oe, h1, h2⟩ := he
    refine wpAny_bind (wpAny_isInstance (T := "StopIteration") (b := true) ⟨oe, h1, h2⟩ isSubtype_stop (wpAny_pure (hQ _ s.toks fun b o hb e => k _ _ (by simpa using hb) e)))
  self := fun i s Q E st hQ => by
    have hT : s.TypeIs (.ref I) "set_iterator" := ⟨_, st.1, rfl⟩
    refine wpAny_pyIter_slot hT FS.slot_sii (wpAny_call_entry FS.slot_sii hT FS.entry_sii ?_ (FS.args_sii _))
    exact wpAny_pure ⟨_, rfl, "set_iterator", _, hT, FS.slot_sin.lookup, hQ⟩ }
end
end L2
namespace L2
open PySem PySem.Spec PyProof.Rows
abbrev tOb (xs : Array Value) : Obj := { cls := .type "tuple", data := .seq xs }
section
variable {P : Program} {w : World} {a I T : Addr} {es : Array (Int × Value)} {ep : Nat} {t : SetTable}
theorem walk_setD (hne : a ≠ I) (hT0 : T ≠ I) (hf : t.fits es.size = true) (ps : List Nat) (order : List Value) (hl : order.length = ps.length) (hp : ∀ (i p : Nat), ps[i]? = some p → ∃ k x, es[p]? = some (k, x) ∧ order[i]? = some x) :
    ∀ A : Around, A.handled = none → Walks P w A I [I, a, T] [I] order.length (fun i v => order[i]? = some v) (fun i h => h.get? I = some (sIt a (.ref T) i es.size ep) ∧ h.get? a = some (sOb es ep t) ∧ h.get? T = some (tOb (ps.map fun (p : Nat) => rawInt p).toArray)) := fun A hh => {
  sub := fun b hb => by simp at hb ⊢; exact .inl hb
  frame := fun i h h' st k => ⟨k I (by simp) _ st.1, k a (by simp) _ st.2.1, k T (by simp) _ st.2.2⟩
  item := fun i s Q E hi st hQ => by
    obtain ⟨hI, ho, hTt⟩ := st
    have hT : s.TypeIs (.ref I) "set_iterator" := ⟨_, hI, rfl⟩
    unfold pyNext
    refine wpAny_bind (wpAny_attempt (wpAny_callSpecial?_slot (name := Str.ofString "__next__") hT FS.slot_sin (wpAny_call_entry FS.slot_sin hT FS.entry_sin ?_ (FS.args_sin _))))
    unfold Builtin.«set_iterator.__next__»
    refine wpAny_bind (wpAny_pure (wpAny_bind (wpAny_fieldsOf hI rfl ?_)))
    show wpAny _ _ (setEntries a >>= _) _ _ _
    refine wpAny_bind (wpAny_setEntries_of ho rfl hf ?_)
    rw [if_neg (by simp)]
    show wpAny _ _ (seqItems? (.ref T) >>= _) _ _ _
    refine wpAny_bind (wpAny_seqItems hTt rfl ?_)
    have hip : i < ps.length := by rw [← hl]; exact hi
    obtain ⟨k, x, h1, h2⟩ := hp i _ (List.getElem?_eq_getElem hip)
    have e1 : ((ps.map fun (p : Nat) => rawInt p).toArray)[i]? = some (rawInt ((ps[i] : Nat) : Int)) := by simp [hip]
    show wpAny _ _ (match ((ps.map fun (p : Nat) => rawInt p).toArray)[((i : Int)).toNat]? with | some (.int place _) => _ | some _ => _ | none => _) _ _ _
    rw [Int.toNat_natCast, e1]
    show wpAny _ _ (setNextDrawn a ps[i] ep >>= _) _ _ _
    unfold setNextDrawn
    refine wpAny_bind (wpAny_bind (wpAny_setState_of ho rfl hf ?_))
    dsimp only
    rw [if_neg (by simp), h1]
    refine wpAny_pure (wpAny_bind (wpAny_setField_rec hI (by simp) fun h3 hI3 b3 => ?_))
    refine wpAny_pure ⟨_, rfl, wpAny_pure (hQ _ h3 s.toks h2 ⟨hI3, b3.extBut _ _ hne ho, b3.extBut _ _ hT0 hTt⟩ fun b o hb e => b3.extBut _ _ (by simpa using hb) e)⟩
  done := fun s Q E st hQ => by
    obtain ⟨hI, ho, hTt⟩ := st
    have hT : s.TypeIs (.ref I) "set_iterator" := ⟨_, hI, rfl⟩
    unfold pyNext
    refine wpAny_bind (wpAny_attempt (wpAny_callSpecial?_slot (name := Str.ofString "__next__") hT FS.slot_sin (wpAny_call_entry FS.slot_sin hT FS.entry_sin ?_ (FS.args_sin _))))
    unfold Builtin.«set_iterator.__next__»
    refine wpAny_bind (wpAny_pure (wpAny_bind (wpAny_fieldsOf hI rfl ?_)))
    show wpAny _ _ (setEntries a >>= _) _ _ _
    refine wpAny_bind (wpAny_setEntries_of ho rfl hf ?_)
    rw [if_neg (by simp)]
    show wpAny _ _ (seqItems? (.ref T) >>= _) _ _ _
    refine wpAny_bind (wpAny_seqItems hTt rfl ?_)
    have e1 : ((ps.map fun (p : Nat) => rawInt p).toArray)[order.length]? = none := by simp [hl]
    show wpAny _ _ (match ((ps.map fun (p : Nat) => rawInt p).toArray)[((order.length : Int)).toNat]? with | some (.int place _) => _ | some _ => _ | none => _) _ _ _
    rw [Int.toNat_natCast, e1]
    refine sit_stop (pre := setField (.ref I) 0 (rawInt 0)) (T := sOb es ep t) (by exact hh) hI (fun q => wpAny_setField_rec hI (by simp) fun h1 hI1 b1 => q _ b1 ⟨_, hI1⟩) fun h' e k he => ?_
    obtain ⟨oe, h1, h2⟩ := he
    refine wpAny_bind (wpAny_isInstance (T := "StopIteration") (b := true) ⟨oe, h1, h2⟩ isSubtype_stop (wpAny_pure (hQ _ s.toks fun b o hb e => k _ _ (by simpa using hb) e)))
  self := fun i s Q E st hQ => by
    have hT : s.TypeIs (.ref I) "set_iterator" := ⟨_, st.1, rfl⟩
    refine wpAny_pyIter_slot hT FS.slot_sii (wpAny_call_entry FS.slot_sii hT FS.entry_sii ?_ (FS.args_sii _))
    exact wpAny_pure ⟨_, rfl, "set_iterator", _, hT, FS.slot_sin.lookup, hQ⟩ }
end
theorem below_lt {p j : Nat} (h : j ≤ p) : SetTable.below #[p] j = 0 := by
  unfold SetTable.below
  show SetTable.below.go #[p] j 1 0 1 = 0
  unfold SetTable.below.go
  have e : ¬ (#[p] : Array Nat).getD ((0 + 1) / 2) j < j := by show ¬ p < j; omega
  rw [if_pos (by decide)]
  dsimp only
  rw [if_neg e]
  rfl
theorem below_ge {p j : Nat} (h : p < j) : SetTable.below #[p] j = 1 := by
  unfold SetTable.below
  show SetTable.below.go #[p] j 1 0 1 = 1
  unfold SetTable.below.go
  have e : (#[p] : Array Nat).getD ((0 + 1) / 2) j < j := by show p < j; omega
  rw [if_pos (by decide)]
  dsimp only
  rw [if_pos e]
  rfl
theorem below_nil (j : Nat) : SetTable.below #[] j = 0 := rfl
section
variable {P : Program} {w : World} {A : Around} {E : Value → Shared → Prop} {s : Shared} {a : Addr} {ss : List Str}
theorem iter_setT {Q : Value → Shared → Prop} (hS : StrSet P w s.heap a ss)
    (h : ∀ (I : Addr) (fp : List Addr) (vs : List Value) (ss1 : List Str) (St : Nat → Heap → Prop) (h1 : Heap) (d : Drawn), StrsAre vs ss1 → ss1.Perm ss → (∀ b o, s.heap.get? b = some o → h1.get? b = some o) → (∀ A : Around, A.handled = none → Walks P w A I fp [I] vs.length (fun i v => vs[i]? = some v) St) →
      St 0 h1 → I ∈ fp → (∀ b ∈ fp, b < h1.objs.size ∧ (b = a ∨ s.heap.objs.size ≤ b)) → s.heap.objs.size ≤ I → s.heap.objs.size ≤ h1.objs.size → Q (.ref I) { s with heap := h1, drawn := d }) : wpAny (model P w) A (pyIter (.ref a)) Q E s := by
  obtain ⟨es, ep, t, ho, e1, e2, e3, e4, e5, e6⟩ := hS
  have hT : s.TypeIs (.ref a) "set" := ⟨_, ho, rfl⟩
  have ha : a < s.heap.objs.size := Heap.lt_size ho
  have hp4 : t.place.size = es.size := by
    unfold SetTable.fits at e4
    rw [Bool.and_eq_true] at e4
    exact eq_of_beq e4.1
  refine wpAny_pyIter_slot hT PySem.F.slot_set_iter (wpAny_call_entry PySem.F.slot_set_iter hT FS.entry_set_iter' ?_ (PySem.F.args_set_iter_1 _))
  unfold Builtin.«frozenset.__iter__» Builtin.Frozenset.slot0
  refine wpAny_bind (wpAny_bind (wpAny_pure (wpAny_pure ?_)))
  unfold Builtin.Frozenset.sizeOf
  refine wpAny_bind (wpAny_bind (wpAny_setEntries_of ho rfl e4 (wpAny_pure ?_)))
  refine wpAny_bind (wp_setDrawn ho e4 ?_)
  dsimp only
  cases hb : w.params.followText "set-order" with
  | true =>
    rw [if_neg (by simp)]
    refine wpAny_bind (wpAny_pure (wpAny_bind (wpAny_setEpoch_of ho rfl e4 ?_)))
    show wpAny _ _ (newFields "set_iterator" _ >>= _) _ _ _
    refine wpAny_bind (wpAny_newObj_type (wpAny_pure ⟨_, rfl, "set_iterator", _, ⟨_, Heap.get?_push_size _ rfl, rfl⟩, FS.slot_sin.lookup, ?_⟩) (by show 5 ≤ _; decide))
    have p := pick_perm (w.params.setOrder a ep) es
    obtain ⟨ss1, q1, q2⟩ := strs_perm' e2 p
    refine h s.heap.objs.size [s.heap.objs.size, a] _ ss1 _ _ s.drawn q1 q2 (fun b o e => Heap.get?_push_of_some _ e) (walk_setI (ep := ep) (es := es) (t := t) (Nat.ne_of_lt ha) e4 _ (fun _ => 0) ?_) ⟨Heap.get?_push_size _ rfl, Heap.get?_push_of_some _ ho⟩ (by simp) ?_ (Nat.le_refl _) (by rw [Heap.size_push]; exact Nat.le_succ _)
    · intro A' E' s' Q' i hi ho' hq
      refine wp_setNextT ho' e4 hb ?_
      rw [List.getElem?_map, Array.getElem?_toList, Option.map_map] at hq
      exact hq
    · intro b hbm
      rw [Heap.size_push]
      simp at hbm
      rcases hbm with rfl | rfl
      · exact ⟨Nat.lt_succ_self _, .inr (Nat.le_refl _)⟩
      · exact ⟨Nat.lt_succ_of_lt ha, .inl rfl⟩
  | false =>
    have led : t.led = true := by rw [e5, hb]; rfl
    by_cases hz : es.size > 1
    · have pl : t.plain = false := e6 (by omega)
      rw [if_pos (by rw [pl, decide_eq_true hz]; rfl)]
      refine wpAny_bind (wp_drawOrder es.size (List.range es.size) s _ (by simp) fun ps d pp => ?_)
      refine wpAny_bind (wpAny_newTuple (s := { s with drawn := d }) ?_ (by rw [List.length_map, pp.length_eq, List.length_range]; exact fits_of_scanBound e3))
      have ho1 : (s.heap.push (tOb (ps.map fun (p : Nat) => rawInt p).toArray)).get? a = some (sOb es ep t) := Heap.get?_push_of_some _ ho
      refine wpAny_bind (wpAny_setEpoch_of (s := { s with heap := s.heap.push (tOb (ps.map fun (p : Nat) => rawInt p).toArray), drawn := d }) ho1 rfl e4 ?_)
      show wpAny _ _ (newFields "set_iterator" _ >>= _) _ _ _
      refine wpAny_bind (wpAny_newObj_type (wpAny_pure ⟨_, rfl, "set_iterator", _, ⟨_, Heap.get?_push_size _ rfl, rfl⟩, FS.slot_sin.lookup, ?_⟩) (by show 5 ≤ _; decide))
      have hlt : ∀ p ∈ ps, p < es.size := fun p hm => List.mem_range.mp (pp.mem_iff.mp hm)
      have ep1 : (ps.filterMap fun p => es[p]?).Perm es.toList := by
        have q := pp.filterMap fun p => es[p]?
        rw [filterMap_getElem?_range] at q
        exact q
      have hfm : ∀ l : List Nat, (∀ p ∈ l, p < es.size) → (l.filterMap fun p => es[p]?).length = l.length ∧ ∀ (i p : Nat), l[i]? = some p → ∃ k x, es[p]? = some (k, x) ∧ ((l.filterMap fun p => es[p]?).map (·.2))[i]? = some x := by
        intro l
        induction l with
        | nil => intro _; exact ⟨rfl, fun i p z => by simp at z⟩
        | cons c l ih =>
          intro hm
          obtain ⟨i1, i2⟩ := ih fun p hp => hm p (List.mem_cons_of_mem _ hp)
          have hcl : c < es.size := hm c List.mem_cons_self
          have hc : es[c]? = some es[c] := Array.getElem?_eq_getElem hcl
          rw [List.filterMap_cons, hc]
          refine ⟨by simp [i1], fun i p z => ?_⟩
          cases i with
          | zero =>
            have e : c = p := by simpa using z
            subst e
            exact ⟨_, _, hc, by simp⟩
          | succ i =>
            obtain ⟨k, x, a1, a2⟩ := i2 i p (by simpa using z)
            exact ⟨k, x, a1, by simpa using a2⟩
      obtain ⟨f1, f2⟩ := hfm ps hlt
      obtain ⟨ss1, q1, q2⟩ := strs_perm' e2 ep1
      have sz1 : (s.heap.push (tOb (ps.map fun (p : Nat) => rawInt p).toArray)).objs.size = s.heap.objs.size + 1 := Heap.size_push ..
      refine h (s.heap.push (tOb (ps.map fun (p : Nat) => rawInt p).toArray)).objs.size [(s.heap.push (tOb (ps.map fun (p : Nat) => rawInt p).toArray)).objs.size, a, s.heap.objs.size] _ ss1 _ _ d q1 q2 (fun b o e => Heap.get?_push_of_some _ (Heap.get?_push_of_some _ e))
        (walk_setD (ep := ep) (es := es) (t := t) (T := s.heap.objs.size) ?_ ?_ e4 ps _ (by rw [List.length_map, f1]) f2) ⟨Heap.get?_push_size _ rfl, Heap.get?_push_of_some _ ho1, Heap.get?_push_of_some _ (Heap.get?_push_size _ rfl)⟩ (by simp) ?_ ?_ ?_
      · rw [sz1]; exact Nat.ne_of_lt (Nat.lt_succ_of_lt ha)
      · rw [sz1]; exact Nat.ne_of_lt (Nat.lt_succ_self _)
      · intro b hbm
        rw [Heap.size_push, sz1]
        rw [sz1] at hbm
        simp at hbm
        rcases hbm with rfl | rfl | rfl
        · exact ⟨Nat.lt_succ_self _, .inr (Nat.le_succ _)⟩
        · exact ⟨Nat.lt_succ_of_lt (Nat.lt_succ_of_lt ha), .inl rfl⟩
        · exact ⟨Nat.lt_succ_of_lt (Nat.lt_succ_self _), .inr (Nat.le_refl _)⟩
      · rw [sz1]; exact Nat.le_succ _
      · rw [Heap.size_push, sz1]; exact Nat.le_succ_of_le (Nat.le_succ _)
    · rw [if_neg (by rw [decide_eq_false hz]; simp)]
      refine wpAny_bind (wpAny_pure (wpAny_bind (wpAny_setEpoch_of ho rfl e4 ?_)))
      show wpAny _ _ (newFields "set_iterator" _ >>= _) _ _ _
      refine wpAny_bind (wpAny_newObj_type (wpAny_pure ⟨_, rfl, "set_iterator", _, ⟨_, Heap.get?_push_size _ rfl, rfl⟩, FS.slot_sin.lookup, ?_⟩) (by show 5 ≤ _; decide))
      refine h s.heap.objs.size [s.heap.objs.size, a] _ ss _ _ s.drawn e2 (List.Perm.refl _) (fun b o e => Heap.get?_push_of_some _ e) (walk_setI (ep := ep) (es := es) (t := t) (Nat.ne_of_lt ha) e4 _ (fun i => if i = 0 then 0 else t.place.getD 0 0 + 1) ?_) ⟨Heap.get?_push_size _ rfl, Heap.get?_push_of_some _ ho⟩ (by simp) ?_ (Nat.le_refl _) (by rw [Heap.size_push]; exact Nat.le_succ _)
      · intro A' E' s' Q' i hi ho' hq
        refine wp_setNext1 ho' e4 hb (by omega) led ?_
        rw [List.length_map, Array.length_toList] at hi
        rcases Nat.lt_or_ge es.size 1 with z0 | z1
        · have e0 : es = #[] := Array.eq_empty_of_size_eq_zero (by omega)
          have p0 : t.place = #[] := Array.eq_empty_of_size_eq_zero (by omega)
          subst e0
          rw [p0] at hq ⊢
          rw [below_nil]
          simpa using hq
        · have z : es.size = 1 := by omega
          obtain ⟨x, e0⟩ : ∃ x, es = #[x] := by
            have := Array.size_eq_one_iff.mp z
            exact this
          obtain ⟨p, p0⟩ : ∃ p, t.place = #[p] := Array.size_eq_one_iff.mp (by omega)
          subst e0
          rw [p0] at hq ⊢
          obtain ⟨k, x⟩ := x
          by_cases i0 : i = 0
          · subst i0
            rw [if_pos rfl, below_lt (Nat.zero_le _)]
            simpa using hq
          · have i1 : i = 1 := by simp at hi; omega
            subst i1
            rw [if_neg (by decide)]
            show Q' (match (#[(k, x)] : Array (Int × Value))[SetTable.below #[p] (p + 1)]?, (#[p] : Array Nat)[SetTable.below #[p] (p + 1)]? with | some (_, x), some j => some (x, j + 1) | _, _ => none) s'
            rw [below_ge (Nat.lt_succ_self _)]
            simpa using hq
      · intro b hbm
        rw [Heap.size_push]
        simp at hbm
        rcases hbm with rfl | rfl
        · exact ⟨Nat.lt_succ_self _, .inr (Nat.le_refl _)⟩
        · exact ⟨Nat.lt_succ_of_lt ha, .inl rfl⟩
end
end L2
namespace L2
open PySem PySem.Spec PyProof.Rows
section
variable {X : Cx} {pins : List (Addr × Obj)} {σ : St} {H : Hp} {s : Shared} {h' : Heap}
theorem Inv.turnedT {t' : Nat} {d' : Drawn} {ch : List Addr} {a : Addr} {o : HO} (I : Inv X pins σ H s) (k : ∀ b u, b ∉ ch → s.heap.get? b = some u → h'.get? b = some u) (f : ∀ b ∈ ch, FpOk X pins H b) (hp : s.heap.objs.size ≤ a) (new : ObjOk X.prog X.w (upd H a o) h' a o) :
    Inv X pins σ (upd H a o) { s with heap := h', toks := t', drawn := d' } := by
  have nit : ∀ b u, H b = some u → b ∉ ch := fun b u e z => by rw [(f b z).1] at e; cases e
  have hn : H a = none := I.hok.fresh hp
  refine I.step (g' := s.gens) (d' := d') (ch := ch) (fun b hb => ?_) (fun b u _ _ hc e _ => k b u hc e) (fun b u _ _ hc e _ => ⟨u.slots, k b u hc e⟩) (fun b u _ e n => ?_) (fun b u hc e => ⟨u, k b u hc e⟩) (fun b xs q => by rw [upd_ne (ne_of_none q hn)]; exact q) (fun b u v q => by rw [upd_ne (ne_of_none q hn)]; exact q)
    (fun b ps q => ⟨#[], by rw [upd_ne (ne_of_none q hn), q]; simp⟩) (fun m hm => ?_) (fun b u e => ?_) I.bare
  · obtain ⟨_, f1, _, f3, f4, f5⟩ := f b hb
    exact ⟨f3, f1, f4, f5⟩
  · rw [upd_ne (Nat.ne_of_lt (Nat.lt_of_lt_of_le (Heap.lt_size e) hp))]; exact n
  · obtain ⟨ob, es, ep, ho, r⟩ := hm
    exact ⟨ob, es, ep, k _ ob (fun z => (f _ z).2.1 rfl) ho, r⟩
  · by_cases hb : b = a
    · subst hb; rw [upd_same] at e; cases e; exact new
    · rw [upd_ne hb] at e
      refine (I.hok b u e).stay (fun c v hc q => k c v ?_ q) (fun c q => by rw [upd_ne (ne_of_none q hn)]; exact q) fun c xs q => by rw [upd_ne (ne_of_none q hn)]; exact q
      rcases hc with z | z
      · rw [z]; exact nit b u e
      · exact nit c _ z
end
section
variable {P : Program} {w : World} {A : Around} {E : Value → Shared → Prop} {s : Shared} {a : Addr} {ss : List Str}
theorem collect_setT {Q : List Value → Shared → Prop} (hh : A.handled = none) (hS : StrSet P w s.heap a ss)
    (h : ∀ (vs : List Value) (ss1 : List Str) (h1 : Heap) (tk : Nat) (d : Drawn), StrsAre vs ss1 → ss1.Perm ss → (∀ b o, s.heap.get? b = some o → h1.get? b = some o) → s.heap.objs.size ≤ h1.objs.size → Q vs { s with heap := h1, toks := tk, drawn := d }) : wpAny (model P w) A (collect (.ref a)) Q E s := by
  unfold collect
  refine wpAny_bind (wpAny_runValue (codeAny_builtin PySem.F.entry_proto_collect ?_))
  rw [Around.under_plainId PySem.F.plain_proto_collect _]
  show wpAny _ A.in1 (newList [] >>= fun l => again (.builtin "list.__iadd__" ⟨[l, .ref a], []⟩)) _ _ _
  refine wpAny_bind (wpAny_newObj_type ?_)
  refine wpAny_pure ⟨plainId_quiet PySem.F.plain_list_iadd _, codeAny_builtin PySem.F.entry_list_iadd ?_⟩
  rw [Around.under_plainId PySem.F.plain_list_iadd _]
  have hS1 : StrSet P w (s.heap.push (seqObj "list" #[] 0)) a ss := hS.at fun o e => Heap.get?_push_of_some _ e
  have hL1 : (s.heap.push (seqObj "list" #[] 0)).get? s.heap.objs.size = some (seqObj "list" #[] 0) := Heap.get?_push_size _ rfl
  have hT : ∀ s' : Shared, StrSet P w s'.heap a ss → s'.TypeIs (.ref a) "set" := fun s' z => by
    obtain ⟨es, ep, t, ho, _⟩ := z
    exact ⟨_, ho, rfl⟩
  have ha : a < s.heap.objs.size := by
    obtain ⟨es, ep, t, ho, _⟩ := hS
    exact Heap.lt_size ho
  have hz : ss.length < scanBound := by
    obtain ⟨es, ep, t, _, _, e2, e3, _⟩ := hS
    rw [← e2.strs, List.length_map, List.length_map, Array.length_toList]
    exact e3
  have hne : Builtin.List.listSameRef (.ref s.heap.objs.size) (.ref a) = false := by
    show (s.heap.objs.size == a) = false
    exact beq_eq_false_iff_ne.mpr (Nat.ne_of_gt ha)
  show wpAny _ A.in1 (Builtin.List.listExtendWith (.ref s.heap.objs.size) (.ref a) (.ref s.heap.objs.size)) _ _ { s with heap := s.heap.push (seqObj "list" #[] 0) }
  unfold Builtin.List.listExtendWith
  refine wpAny_bind (wpAny_typeOf (hT _ hS1) ?_)
  rw [if_neg (by rw [hne]; decide)]
  refine wpAny_bind (iter_setT hS1 fun I fp vs ss1 St h1 d q1 q2 q3 W st hI hfp hge hsz => ?_)
  have hS2 : StrSet P w h1 a ss := hS1.at fun o e => q3 _ _ e
  have hL2 : h1.get? s.heap.objs.size = some (seqObj "list" #[] 0) := q3 _ _ hL1
  refine wpAny_bind (wpAny_holding ?_)
  unfold Builtin.List.listLengthHint
  refine wpAny_bind (wpAny_specialOf (hT { s with heap := h1, drawn := d } hS2) PySem.F.slot_set_len.lookup ?_)
  dsimp only
  rw [show splitId "set.__len__" = some ("set", "__len__") from by decide +kernel]
  dsimp only
  refine wpAny_bind (wpAny_isInstance (b := true) (hT { s with heap := h1, drawn := d } hS2) sub_set_self ?_)
  rw [if_neg (by decide), if_pos (by decide +kernel)]
  refine wpAny_bind (wpAny_typeOf (hT { s with heap := h1, drawn := d } hS2) (wpAny_pure ?_))
  rw [if_pos (by decide +kernel)]
  refine wpAny_bind (wpAny_rule ?_)
  unfold Builtin.List.listTouch
  have hL3 := get?_update_seq hL2 (·.push .none)
  have hL4 := get?_update_seq hL3 (·.pop)
  refine wpAny_bind (wpAny_bind (listUpdate_at (s := { s with heap := h1, drawn := d }) hL2 rfl (listUpdate_at (s := { s with heap := h1.update s.heap.objs.size (Obj.mapSeq (·.push .none)), drawn := d }) hL3 rfl ?_)))
  have nS : s.heap.objs.size ∉ fp := fun z => by
    rcases (hfp _ z).2 with e | e
    · exact absurd e (Nat.ne_of_gt ha)
    · rw [size_push'] at e
      exact absurd e (Nat.not_succ_le_self _)
  have upd2 : ∀ b o, b ≠ s.heap.objs.size → h1.get? b = some o → ((h1.update s.heap.objs.size (Obj.mapSeq (·.push .none))).update s.heap.objs.size (Obj.mapSeq (·.pop))).get? b = some o := fun b o hb e => by
    rw [Heap.get?_update_ne _ _ _ _ hb, Heap.get?_update_ne _ _ _ _ hb]; exact e
  have hv : vs.length ≤ sizeLine := by
    have e1 := q2.length_eq
    have e2 : vs.length = ss1.length := by rw [← q1.strs, List.length_map]
    rw [e2, e1]
    exact fits_of_scanBound hz
  have st3 := (W A.in1.in1.in1 (by exact hh)).frame 0 _ ((h1.update s.heap.objs.size (Obj.mapSeq (·.push .none))).update s.heap.objs.size (Obj.mapSeq (·.pop))) st fun b hb o e => upd2 b o (fun z => nS (z ▸ hb)) e
  refine wpAny_pure ⟨plainId_quiet PySem.F.plain_extend_loop _, codeAny_extend_loopS ((W _ (by exact hh)).toS) hv _ nS _ vs.length 0 _ _ _ rfl (Nat.zero_le _) st3 hL4 (ItemsOf.nil _) fun s' acc' c' hm hS' hacc => ?_⟩
  show wpAny _ A (load s.heap.objs.size >>= _) _ _ s'
  refine wpAny_bind (wpAny_load hS' ?_)
  have eacc : acc'.toList = vs := by
    refine List.ext_getElem? fun i => ?_
    by_cases hi : i < vs.length
    · have hi' : i < acc'.size := by rw [hacc.1]; exact hi
      rw [Array.getElem?_toList, Array.getElem?_eq_getElem hi']
      exact (hacc.2 i _ (Array.getElem?_eq_getElem hi')).symm
    · rw [Array.getElem?_toList, Array.getElem?_eq_none (by rw [hacc.1]; omega), List.getElem?_eq_none (by omega)]
  show wpAny _ A (pure acc'.toList) _ _ s'
  rw [eacc]
  obtain ⟨h5, g5, d5, tk5, os5⟩ := s'
  cases (show g5 = s.gens from hm.gens)
  cases (show d5 = d from hm.drawn)
  cases (show os5 = s.os from hm.os)
  have keep : ∀ b o, h1.get? b = some o → b ≠ s.heap.objs.size → b ≠ I → h5.get? b = some o := fun b o e n1 n2 => hm.heap b o (by simp only [List.mem_cons, List.not_mem_nil, or_false, not_or]; exact ⟨n1, n2⟩) (upd2 b o n1 e)
  refine wpAny_pure (h vs ss1 h5 tk5 d q1 q2 (fun b o e => ?_) ?_)
  · have lt := Heap.lt_size e
    refine keep b o (q3 b o (Heap.get?_push_of_some _ e)) (Nat.ne_of_lt lt) (Nat.ne_of_lt (Nat.lt_of_lt_of_le lt ?_))
    rw [size_push'] at hge
    exact Nat.le_of_succ_le hge
  · exact Nat.le_of_lt (Heap.lt_size hS')
end
def SetS (P : Program) (w : World) (a : Addr) (ss : List Str) : HO := .ext fun h => StrSet P w h a ss
section
variable {X : Cx}
theorem call_setS (hc : X.calm = true) : CallR X (.type "set") (fun xs H Q => ∃ (p : Addr) (ss0 : List Str), xs = [.ref p] ∧ SqL X.K H p (ss0.map V.str) ∧ ss0.length < 1000 ∧ ∀ (r : Addr) (ss : List Str), H r = none → ss.Nodup → ss.length ≤ ss0.length → (∀ x, x ∈ ss ↔ x ∈ ss0) → Q (.ref r) (upd H r (SetS X.prog X.w r ss))) := by
  intro pins s σ H xs us Q I r h
  obtain ⟨p, ss0, rfl, hq, hl, q⟩ := h
  obtain ⟨u, rfl, rx⟩ := vals1 r
  cases rx
  obtain ⟨its, rv, pl, hz⟩ := I.list hq
  have hlen := rv.length
  rw [List.length_map] at hlen
  refine call_setT (I.ok.hd hc) pl.isList (by simpa using strsAre_of rv) (by have : scanBound = 4096 := rfl; simp; omega) fun h' tk ss hS hO hk => ?_
  obtain ⟨o1, o2, o3⟩ := hO
  rw [List.size_toArray, ← hlen] at o2 o3
  refine ⟨.ref s.heap.objs.size, _, I.laid (t' := tk) (a := s.heap.objs.size) (o := SetS X.prog X.w s.heap.objs.size ss) (fun b o e => hk b o (Heap.lt_size e) e) (Nat.le_refl _) ⟨hS, ?_, fun h1 h2 z k => z.at k⟩, rfl, q _ ss (I.hok.fresh (Nat.le_refl _)) o1 o2 fun x => ?_⟩
  · obtain ⟨es, ep, t, ho, _⟩ := hS
    exact ⟨_, ho⟩
  · rw [o3 x, List.mem_iff_getElem?]
    constructor
    · rintro ⟨j, hj, rfl⟩
      exact ⟨j, by show ss0[j]? = some (ss0.getD j default); rw [List.getD_eq_getElem?_getD, List.getElem?_eq_getElem hj]; rfl⟩
    · rintro ⟨j, hj⟩
      exact ⟨j, (List.getElem?_eq_some_iff.mp hj).1, by show ss0.getD j default = x; rw [List.getD_eq_getElem?_getD, hj]; rfl⟩
theorem call_sortedSet (hc : X.calm = true) : CallR X (.builtin "sorted") (fun xs H Q => ∃ (p : Addr) (ss : List Str), xs = [.ref p] ∧ H p = some (SetS X.prog X.w p ss) ∧ ss.length < 64 ∧ ∀ (r : Addr) (ss' : List Str), H r = none → ss'.Perm ss → sortedS ss' = true → Q (.ref r) (upd H r (.lst (ss'.map V.str)))) := by
  intro pins s σ H xs us Q I r h
  obtain ⟨p, ss, rfl, hp, h64, q⟩ := h
  obtain ⟨u, rfl, rx⟩ := vals1 r
  cases rx
  have hS : StrSet X.prog X.w s.heap p ss := (I.hok p _ hp).1
  refine Calls.call_function_entry kind_sorted plain_sorted entry_sorted (args_sorted1 _) ?_
  unfold Builtin.«sorted»
  refine wpAny_bind (m := checkCount "sorted" 1 1 _) (wpAny_pure (wpAny_bind (collect_setT (I.ok.hd hc) hS fun vs ss1 h1 tk d a1 a2 a3 a4 => ?_)))
  have hvl : vs.length = ss1.length := by rw [← a1.strs, List.length_map]
  have hl64 : vs.length < 64 := by rw [hvl, a2.length_eq]; exact h64
  refine wpAny_bind (wpAny_newList ?_ (by have : sizeLine > 64 := by decide
                                          omega))
  have hoL : (h1.push (seqObj "list" vs.toArray 0)).get? h1.objs.size = some (seqObj "list" vs.toArray 0) := Heap.get?_push_size _ rfl
  refine wpAny_bind (wpAny_holding (wpAny_call_entry slot_list_sort ⟨_, hoL, rfl⟩ entry_list_sort (list_sort_treeK strKind_oneLt hoL a1.keysOf (fun v1 v2 rest e => keyKind_strs (by rw [← e]; exact a1)) hl64 fun st' b1 b2 => ⟨_, rfl, ?_⟩) (args_list_sort _)))
  obtain ⟨ss', c1, c2, c3⟩ := sorted_out_str a1 b1 b2
  refine wpAny_pure ⟨_, rfl, ?_⟩
  have nz : H h1.objs.size = none := I.hok.fresh a4
  obtain ⟨e, he⟩ := sortedHeap_at (out := (arrOf st').map (·.2)) hoL
  refine ⟨.ref h1.objs.size, _, I.turnedT (t' := tk) (d' := d) (ch := []) (a := h1.objs.size) (o := .lst (ss'.map V.str)) (fun b o _ eb => ?_) (fun b z => nomatch z) a4 ?_, rfl, q _ ss' nz (c2.trans a2) c3⟩
  · have e1 := a3 b o eb
    have lt := Heap.lt_size e1
    rw [sortedHeap_old (Nat.ne_of_lt lt) (by rw [size_push']; exact Nat.lt_succ_of_lt lt)]
    exact Heap.get?_push_of_some _ e1
  · refine ⟨?_, ((arrOf st').map (·.2)).toList, e, of_strsAre c1, he⟩
    rw [List.length_map, c2.length_eq, a2.length_eq]
    exact Nat.le_of_lt (small1000 (by omega))
end
end L2
namespace L2
open PySem PySem.Spec PyProof.Rows
section
variable {X : Cx} {pins : List (Addr × Obj)} {σ : St} {H : Hp} {s : Shared} {h' : Heap}
theorem Inv.turnedL {t' : Nat} {ch : List Addr} (I : Inv X pins σ H s) (k : ∀ b u, b ∉ ch → s.heap.get? b = some u → h'.get? b = some u) (f : ∀ b ∈ ch, FpOk X pins H b) : Inv X pins σ H { s with heap := h', toks := t' } := by
  have nit : ∀ b u, H b = some u → b ∉ ch := fun b u e z => by rw [(f b z).1] at e; cases e
  refine I.step (g' := s.gens) (d' := s.drawn) (ch := ch) (fun b hb => ?_) (fun b u _ _ hc e _ => k b u hc e) (fun b u _ _ hc e _ => ⟨u.slots, k b u hc e⟩) (fun b u _ e n => n) (fun b u hc e => ⟨u, k b u hc e⟩) (fun b xs q => q) (fun b u v q => q) (fun b ps q => ⟨#[], by rw [q]; simp⟩) (fun m hm => ?_) (fun b u e => ?_) I.bare
  · obtain ⟨_, f1, _, f3, f4, f5⟩ := f b hb
    exact ⟨f3, f1, f4, f5⟩
  · obtain ⟨ob, es, ep, ho, r⟩ := hm
    exact ⟨ob, es, ep, k _ ob (fun z => (f _ z).2.1 rfl) ho, r⟩
  · refine (I.hok b u e).stay (fun c v hc q => k c v ?_ q) (fun c q => q) fun c xs q => q
    rcases hc with z | z
    · rw [z]; exact nit b u e
    · exact nit c _ z
end
def Itp (n : Nat) (Ls : Hp → Prop) (xv : Nat → List V) : It := ⟨fun i H => Ls H ∧ i < n, fun i H x H' => ∃ T, H T = none ∧ H' = upd H T (.tup (xv i)) ∧ x = .ref T, fun i H => Ls H ∧ i = n⟩
theorem turn_walkT {P : Program} {w : World} {K : PySem.W.Frag} {elts : List Expr} {ct : Nat} {pos : Pos} (it : Addr) (fp fpW wr : List Addr) (n : Nat) (Ls : Hp → Prop) (xv : Nat → List V) (tn : Nat → Heap → Prop)
    (hit : it ∈ fp) (hwr : ∀ b ∈ wr, b ∈ fp) (hobj : ∀ i h, tn i h → ∀ b ∈ fp, ∃ o, h.get? b = some o ∧ ∀ v, o.data ≠ .cell v) (hkeep : ∀ i h h', tn i h → (∀ b ∈ fp, ∀ o, h.get? b = some o → h'.get? b = some o) → tn i h')
    (hx : ∀ i, (xv i).length ≤ sizeLine)
    (W : ∀ (X : Cx), X.prog = P → X.w = w → X.K = K → X.calm = true → ∀ (pins : List (Addr × Obj)) (s : Shared) (σ : L2.St) (H : Hp), Inv X pins σ H s → Ls H → ∃ (Pt : Nat → Array Value → Prop) (St : Nat → Heap → Prop) (Mid : Nat → Addr → Heap → Prop), WalksT P w X.A it fpW wr n Pt St Mid ∧ (∀ i, tn i s.heap → St i s.heap) ∧ (∀ i h, St i h → tn i h) ∧
      (∀ i vals, Pt i vals → Vals (xv i) vals.toList))
    (hself : ∀ (A : Around) (i : Nat) (s : Shared) (Q : Value → Shared → Prop) (E : Value → Shared → Prop), tn i s.heap → Q (.ref it) s → wpAny (model P w) A (pyIter (.ref it)) Q E s) : Turn P w K (.Tuple elts ct pos) (Itp n Ls xv) fp it tn where
  mem := hit
  obj := hobj
  keep := hkeep
  item := by
    intro X hP hw hK hc i pins s σ H E I hf st hg
    obtain ⟨hL, hi⟩ := hg
    obtain ⟨Pt, St, Mid, Wt, w1, w2, w3⟩ := W X hP hw hK hc pins s σ H I hL
    subst hP hw hK
    refine Wt.item i s _ _ hi (w1 i st) fun T vals h1 tk pv hT ht mid k1 => ?_
    have hTw : T ∉ wr := Wt.apart i T h1 mid
    refine ⟨_, rfl, Wt.go elts ct pos i T _ _ _ mid fun h2 st2 k2 => ?_⟩
    have ht2 : IsTup h2 T (vals.toList).toArray := by
      obtain ⟨o, a1, a2, nn, a3⟩ := ht
      exact ⟨o, k2 _ _ hTw a1, a2, nn, by simpa using a3⟩
    refine ⟨.ref T, upd H T (.tup (xv i)), I.turnedT (t' := tk) (d' := s.drawn) (ch := wr) (fun b u hb e => k2 b u hb (k1 b u hb e)) (fun b hb => hf b (hwr b hb)) hT ⟨hx i, vals.toList, w3 i vals pv, ht2⟩, rfl, ⟨T, I.hok.fresh hT, rfl, rfl⟩, w2 _ _ st2, fun b hb => ?_⟩
    have e : b ≠ T := by
      obtain ⟨o, ho, _⟩ := hobj i _ st b hb
      exact Nat.ne_of_lt (Nat.lt_of_lt_of_le (Heap.lt_size ho) hT)
    rw [upd_ne e]
    exact (hf b hb).1
  done := by
    intro X hP hw hK hc i pins s σ H E I hf st hg
    obtain ⟨hL, hi⟩ := hg
    obtain ⟨Pt, St, Mid, Wt, w1, w2, w3⟩ := W X hP hw hK hc pins s σ H I hL
    subst hP hw hK hi
    exact Wt.done s _ _ (w1 _ st) fun h1 tk k1 => ⟨rfl, I.turnedL (ch := wr) (fun b u hb e => k1 b u hb e) fun b hb => hf b (hwr b hb)⟩
  self := hself
theorem zip_apart (n a b : Nat) (h1 : a < n) (h2 : b < n) : ZipApart (n + 4) (n + 2) (n + 3) n (n + 1) a b := by
  constructor <;> (show @Ne Nat _ _; omega)
section
variable {X : Cx}
def iZip (K : PySem.W.Frag) (ta : TA) : TI := fun σ H R => ta σ H fun vs H1 => ∃ (a b : Addr) (xs ys : List V), vs = [.ref a, .ref b] ∧ SqL K H1 a xs ∧ SqL K H1 b ys ∧ R (Itp (min xs.length ys.length) (fun H => SqL K H a xs ∧ SqL K H b ys) (fun i => [xs.getD i .non, ys.getD i .non])) H1
theorem boot_zip : bootBuiltins "zip" = some (.type "zip") := by decide +kernel
theorem pi_zip {a b : Expr} {ta : TA} {p pos tpos : Pos} {elts : List Expr} {ct : Nat} (hg : Gl X "zip") (hm : X.mg "zip" = none) (ha : PA X [a, b] ta) (hs : starEach [a, b] X.env = [(false, eval a X.env), (false, eval b X.env)] := by rfl) (hs2 : starEach [b] X.env = [(false, eval b X.env)] := by rfl) :
    PI X (.Tuple elts ct tpos) (.Call (.Name "zip" p) [a, b] [] pos) (iZip X.K ta) := by
  intro pins s σ H R I h
  refine Call_ (ld_blt I hg hm boot_zip (PyProof.Rows.callWith_type1 (thn (ha pos pins s σ H _ I h) fun us s1 ⟨vs, H1, I1, r1, q1⟩ => ?_) (by rw [hs, hs2]) (by rw [hs2]; rfl)))
  obtain ⟨l1, l2, xs, ys, e, hx, hy, q⟩ := q1
  subst e
  obtain ⟨u1, u2, rfl, r1, r2⟩ := vals2 r1
  cases r1
  cases r2
  obtain ⟨it1, rv1, pl1, hz1⟩ := I1.list hx
  obtain ⟨it2, rv2, pl2, hz2⟩ := I1.list hy
  have n1 := rv1.length
  have n2 := rv2.length
  have b1 : l1 < s1.heap.objs.size := by obtain ⟨o, n, e, _⟩ := pl1; exact Heap.lt_size e
  have b2 : l2 < s1.heap.objs.size := by obtain ⟨o, n, e, _⟩ := pl2; exact Heap.lt_size e
  refine call_zip_2 pl1.isList pl2.isList fun h1 z1 z2 z3 z4 z5 z6 z7 => ?_
  refine wpAny_pyIter_zip z1 ?_
  have D := zip_apart s1.heap.objs.size l1 l2 b1 b2
  have hfp : ∀ b ∈ [s1.heap.objs.size + 4, s1.heap.objs.size + 2, s1.heap.objs.size + 3, s1.heap.objs.size, s1.heap.objs.size + 1], s1.heap.objs.size ≤ b := fun b hb => by
    simp only [List.mem_cons, List.not_mem_nil, or_false] at hb
    rcases hb with rfl | rfl | rfl | rfl | rfl
    · exact Nat.le_add_right _ _
    · exact Nat.le_add_right _ _
    · exact Nat.le_add_right _ _
    · exact Nat.le_refl _
    · exact Nat.le_add_right _ _
  refine ⟨s1.heap.objs.size + 4, [s1.heap.objs.size + 4, s1.heap.objs.size + 2, s1.heap.objs.size + 3, s1.heap.objs.size, s1.heap.objs.size + 1],
    fun i h => IsZip h (s1.heap.objs.size + 4) (s1.heap.objs.size + 2) (s1.heap.objs.size + 3) .none ∧ IsPair h (s1.heap.objs.size + 2) (.ref s1.heap.objs.size) (.ref (s1.heap.objs.size + 1)) ∧ (∃ a b, IsPair h (s1.heap.objs.size + 3) a b) ∧ h.IsListIter s1.heap.objs.size l1 i ∧ h.IsListIter (s1.heap.objs.size + 1) l2 i,
    _, H1, rfl, I1.kept (t' := s1.toks) z7,
    turn_walkT (s1.heap.objs.size + 4) _ [s1.heap.objs.size + 4, s1.heap.objs.size + 2, s1.heap.objs.size + 3, s1.heap.objs.size, s1.heap.objs.size + 1, l1, l2] [s1.heap.objs.size + 4, s1.heap.objs.size + 3, s1.heap.objs.size, s1.heap.objs.size + 1] _ _ _ _ (by simp) (fun b hb => ?_) (fun i h st b hb => ?_) (fun i h h' st k => ?_) (fun i => by show 2 ≤ sizeLine; decide) ?_ (fun A i s' Q E st hQ => wpAny_pyIter_zip st.1 hQ),
    ⟨z1, z2, ⟨_, _, z3⟩, z4, z5⟩, fun b hb => I1.fpOk (hfp b hb) (I1.hok.fresh (hfp b hb)), q⟩
  · simp only [List.mem_cons, List.not_mem_nil, or_false] at hb ⊢
    rcases hb with h | h | h | h
    · exact .inl h
    · exact .inr (.inr (.inl h))
    · exact .inr (.inr (.inr (.inl h)))
    · exact .inr (.inr (.inr (.inr h)))
  · obtain ⟨a1, a2, ⟨c, d, a3⟩, ⟨o4, a4, c4, d4⟩, ⟨o5, a5, c5, d5⟩⟩ := st
    simp only [List.mem_cons, List.not_mem_nil, or_false] at hb
    rcases hb with rfl | rfl | rfl | rfl | rfl
    · exact ⟨_, a1, fun v z => by cases z⟩
    · exact ⟨_, a2, fun v z => by cases z⟩
    · exact ⟨_, a3, fun v z => by cases z⟩
    · exact ⟨_, a4, fun v z => by rw [d4] at z; cases z⟩
    · exact ⟨_, a5, fun v z => by rw [d5] at z; cases z⟩
  · obtain ⟨a1, a2, ⟨c, d, a3⟩, a4, a5⟩ := st
    exact ⟨k _ (by simp) _ a1, k _ (by simp) _ a2, ⟨c, d, k _ (by simp) _ a3⟩, a4.at fun o e => k _ (by simp) o e, a5.at fun o e => k _ (by simp) o e⟩
  · intro X' hP hw hK hc pins' s' σ' H' I' hL
    obtain ⟨hx', hy'⟩ := hL
    rw [← hK] at hx' hy'
    obtain ⟨jt1, sv1, ql1, _⟩ := I'.list hx'
    obtain ⟨jt2, sv2, ql2, _⟩ := I'.list hy'
    have m1 := sv1.length
    have m2 := sv2.length
    have Wz := WalksT.zip2 (prog := X.prog) (w := X.w) (I'.ok.hd hc) _ _ _ _ _ l1 l2 D jt1.toArray jt2.toArray
    rw [show min jt1.toArray.size jt2.toArray.size = min xs.length ys.length by show min jt1.length jt2.length = _; rw [m1, m2]] at Wz
    refine ⟨_, _, _, Wz, fun i st => ?_, fun i h st => ?_, fun i vals pv => ?_⟩
    · obtain ⟨a1, a2, a3, a4, a5⟩ := st
      exact ⟨a1, a2, a3, a4, a5, ql1.isList, ql2.isList⟩
    · obtain ⟨a1, a2, a3, a4, a5, _⟩ := st
      exact ⟨a1, a2, a3, a4, a5⟩
    · obtain ⟨x, y, e1, e2, rfl⟩ := pv
      have e1 : jt1[i]? = some x := by simpa using e1
      have e2 : jt2[i]? = some y := by simpa using e2
      have c1 : i < xs.length := by rw [m1]; exact (List.getElem?_eq_some_iff.mp e1).1
      have c2 : i < ys.length := by rw [m2]; exact (List.getElem?_eq_some_iff.mp e2).1
      obtain ⟨u, d1, d2⟩ := sv1.get (List.getElem?_eq_getElem c1)
      obtain ⟨v, f1, f2⟩ := sv2.get (List.getElem?_eq_getElem c2)
      rw [e1] at d1
      rw [e2] at f1
      cases d1
      cases f1
      show Vals [xs.getD i .non, ys.getD i .non] [x, y]
      rw [List.getD_eq_getElem?_getD, List.getElem?_eq_getElem c1, List.getD_eq_getElem?_getD, List.getElem?_eq_getElem c2]
      exact .cons d2 (.cons f2 .nil)
end
section
variable {σ0 : St} {g : TG} {tt : TT} {te : TE} {Q : List V → Hp → Prop} {H1 : Hp}
theorem turns_tup {n : Nat} {Ls : Hp → Prop} {xv : Nat → List V} (Pv : Nat → List V → Hp → Prop) (h0 : Pv 0 [] H1) (hl : ∀ i ys H, i ≤ n → Pv i ys H → Ls H)
    (hs : ∀ i ys H T, i < n → Pv i ys H → H T = none → g (.ref T) σ0 (upd H T (.tup (xv i))) fun σ2 H2 => Sle σ0 σ2 ∧ tt σ2 H2 fun b H3 => if b = true then te σ2 H3 (fun v H4 => ys.length < sizeLine ∧ Nxt n i Pv (ys ++ [v]) H4) else Nxt n i Pv ys H3)
    (hd : ∀ ys H, Pv n ys H → Q ys H) : cTurns (Itp n Ls xv) σ0 g tt te Q H1 := by
  refine ⟨fun i m ys H => m = n - i ∧ i ≤ n ∧ Pv i ys H, ⟨n, by simp, Nat.zero_le _, h0⟩, ?_⟩
  rintro i m ys H ⟨rfl, hi, p⟩
  have q := hl i ys H hi p
  by_cases hlt : i < n
  · refine .inr ⟨⟨q, hlt⟩, fun x H' y => ?_⟩
    obtain ⟨T, e1, e2, e3⟩ := y
    subst e2 e3
    exact hs i ys H T hlt p e1
  · have e : i = n := by omega
    subst e
    exact .inl ⟨⟨q, rfl⟩, hd ys H p⟩
end
end L2
namespace L2
open PySem PySem.Spec PyProof.Rows
section
variable {X : Cx} {pins : List (Addr × Obj)} {σ : St} {H H' : Hp} {s : Shared}
theorem inv_compO {o0 : Obj} {N' : List Str} {scope : Scope} {sub : List (Option Nat)} {fp : List Addr} (I : Inv X pins σ H s) (O : CmpOk X.N X.env.scope N' scope sub) (hf : ∀ b ∈ fp, FpOk X pins H b)
    (hfl : ∀ b ∈ fp, b < s.heap.objs.size) (nf : o0.isFreed = false) (nc : ∀ v, o0.data ≠ .cell v) :
    Inv (cmpOf X scope N' (s.heap.objs.size + 1) s H fp) [(s.heap.objs.size, o0)] (subσ sub σ) H
      { s with heap := pushCells ((s.heap.push o0).push { cls := .type "dict", data := .dict #[] }) scope.names } := by
  have hk3 : ∀ b o, s.heap.get? b = some o → (s.heap.push o0).get? b = some o := fun b o e => Heap.get?_push_of_some _ e
  have sz3 : (s.heap.push o0).objs.size = s.heap.objs.size + 1 := Heap.size_push ..
  have hk : ∀ b o, s.heap.get? b = some o → (pushCells ((s.heap.push o0).push { cls := .type "dict", data := .dict #[] }) scope.names).get? b = some o :=
    fun b o e => pushCells_keeps _ _ b o (Heap.get?_push_of_some _ (hk3 b o e))
  have cf := cells_facts (h3 := s.heap.push o0) I O hk3
  rw [sz3] at cf
  have hC : H (s.heap.objs.size + 1) = none := I.hok.fresh (Nat.le_succ _)
  have nsC : (pushCells ((s.heap.push o0).push { cls := .type "dict", data := .dict #[] }) scope.names).Ns (s.heap.objs.size + 1) (fun _ => none) := by
    rw [← sz3]
    exact (Heap.Ns.new _ _).keeps (pushCells_keeps _ _)
  have has : ∀ x, (scope.names.lookup x = some .cell ∨ scope.names.lookup x = some .free) → ∃ c, (cellsFrom (s.heap.objs.size + 1 + 1) scope.names (closL X.env.cells scope.names [])).lookup x = some c := fun x hx => by
    refine Option.isSome_iff_exists.mp (PySem.W.cellsFrom_some _ _ _ ?_)
    rcases hx with z | z
    · exact .inl z
    · exact .inr (closL_some (.inl (PySem.mem_of_lookup z)))
  have kindB : ∀ x, (cenvOf X.env scope (s.heap.objs.size + 1)).kindOf x = (scope.names.lookup x).map fun k => if (k == NameKind.free && X.env.scope.kind == .function && X.env.scope.names.lookup x == some .cell) then NameKind.cell else k := fun x => lookup_relab
  have cellOk : ∀ x c, (cenvOf X.env scope (s.heap.objs.size + 1)).cells.lookup x = some c → ∃ v, (pushCells ((s.heap.push o0).push { cls := .type "dict", data := .dict #[] }) scope.names).IsCell c v := fun x c h => by
    rcases cf.1 x c h with q | q
    · exact ⟨_, q.1⟩
    · obtain ⟨v, z⟩ := I.cell x c q.2
      exact ⟨v, z.keeps hk⟩
  refine ⟨⟨I.ok.mod, O.kind, I.ok.glob, I.ok.blt, Nat.le_succ _, fun x y c h1 h2 => cf.2 x y c h1 h2, fun x hx => ?_, fun x c hx h => ?_, I.ok.hd, I.ok.frames, .inl rfl, fun b hb => ?_, fun b o e => I.bs b o e, Nat.le_trans I.ok.bsz I.sz, fun b o e hb => ?_, fun b hb => ?_, I.stack, I.stkFree⟩,
    rfl, I.bare, Un.kept hk, ⟨fun _ => none, nsC, fun i x v h1 h2 h3 => ?_⟩, cellOk, hC, fun x c h => ?_, fun p hp => ?_, I.hok.kept hk, ?_⟩
  · -- has
    refine has x ?_
    have hx : (cenvOf X.env scope (s.heap.objs.size + 1)).kindOf x = some .cell ∨ (cenvOf X.env scope (s.heap.objs.size + 1)).kindOf x = some .free := hx
    rw [kindB] at hx
    cases e : scope.names.lookup x with
    | none => rw [e] at hx; rcases hx with z | z <;> cases z
    | some k =>
      rw [e] at hx
      cases k with
      | cell => exact .inl rfl
      | free => exact .inr rfl
      | _ => exfalso; rcases hx with z | z <;> simp at z
  · -- cab
    rcases cf.1 x c h with q | q
    · have := q.2.1
      show s.heap.objs.size ≤ c
      omega
    · exfalso
      have e := lookup_mem_nd O.nd q.1
      have hx' : (!(scope.names.lookup x == some NameKind.free)) = true := hx
      rw [e] at hx'
      exact absurd hx' (by decide)
  · -- exf
    obtain ⟨f0, f1, f2, f3, f4, f5⟩ := hf b hb
    have lt := hfl b hb
    refine ⟨fun e => ?_, fun x c h e => ?_⟩
    · have e' : b = s.heap.objs.size + 1 := e
      rw [e'] at lt
      exact absurd lt (Nat.not_lt.mpr (Nat.le_succ _))
    · rcases cf.1 x c h with q | q
      · have z := q.2.1
        rw [e] at z
        exact absurd lt (Nat.not_lt.mpr (Nat.le_trans (Nat.le_trans (Nat.le_succ _) (Nat.le_succ _)) z))
      · exact f4 x c q.2 e
  · -- noex
    obtain ⟨f0, f1, f2, f3, f4, f5⟩ := hf b hb
    rcases f3 with z | z
    · exact I.ok.noex b o e z
    · exact absurd (Nat.lt_of_lt_of_le (Heap.lt_size (I.ok.bs b o e).1) z) (Nat.lt_irrefl _)
  · -- exfs
    obtain ⟨f0, f1, f2, f3, f4, f5⟩ := hf b hb
    exact fun z => f2 (frs_sub_of I z f1)
  · -- loc
    have h1' : N'[i]? = some x := h1
    have hsub : ∃ k, sub[i]? = some (some k) ∧ (σ[k]?).join = some v := by
      unfold subσ at h2
      rw [List.getElem?_map] at h2
      cases e : sub[i]? with
      | none => rw [e] at h2; cases h2
      | some o =>
        rw [e] at h2
        cases o with
        | none => cases h2
        | some k => exact ⟨k, rfl, by simpa using h2⟩
    obtain ⟨k, hk1, hk2⟩ := hsub
    obtain ⟨nk, fx⟩ := O.sub i k x hk1 h1'
    have sk : σ[k]? = some (some v) := by
      cases e : σ[k]? with
      | none => rw [e] at hk2; cases hk2
      | some o => rw [e] at hk2; cases o with
        | none => cases hk2
        | some y => cases hk2; rfl
    have cx := O.free _ (PySem.mem_of_lookup fx) rfl
    obtain ⟨m, hn, hl⟩ := I.loc
    obtain ⟨u, ru, lk⟩ := hl k x v nk sk (by
      rcases cx with z | z
      · exact .inr (.inl z)
      · exact .inr (.inr z))
    refine ⟨u, ru, .inr ⟨?_, ?_⟩⟩
    · show (cenvOf X.env scope (s.heap.objs.size + 1)).kindOf x = some .cell ∨ (cenvOf X.env scope (s.heap.objs.size + 1)).kindOf x = some .free
      rw [kindB, fx]
      by_cases hc : (NameKind.free == NameKind.free && X.env.scope.kind == .function && X.env.scope.names.lookup x == some .cell) = true
      · exact .inl (by rw [Option.map_some, if_pos hc])
      · exact .inr (by rw [Option.map_some, if_neg hc])
    · rcases lk with ⟨kl, _⟩ | ⟨_, c, hc, hcell⟩
      · exfalso
        have kl' : X.env.scope.names.lookup x = some .local := kl
        rcases cx with z | z <;> rw [kl'] at z <;> cases z
      · obtain ⟨c', hc'⟩ := has x (.inr fx)
        refine ⟨c', hc', ?_⟩
        rcases cf.1 x c' hc' with q | q
        · exfalso
          have e := lookup_mem_nd O.nd q.2.2
          rw [fx] at e; cases e
        · rw [hc] at q
          have e : c = c' := Option.some.inj q.2
          subst e
          exact hcell.keeps hk
  · -- freeC
    rcases cf.1 x c h with q | q
    · exact I.hok.fresh (by have := q.2.1; omega)
    · exact I.freeC x c q.2
  · -- pin
    have hp' : p = (s.heap.objs.size, o0) := by
      have : p ∈ ([] ++ [(s.heap.objs.size, o0)] : List (Addr × Obj)) := hp
      simpa using this
    subst hp'
    refine ⟨pushCells_keeps _ _ _ _ (Heap.get?_push_of_some _ (Heap.get?_push_size _ nf)), I.hok.fresh (Nat.le_refl _), Nat.ne_of_lt (Nat.lt_succ_self _), fun z => ?_, fun v z => ?_⟩
    · rcases List.mem_cons.mp (I.stkSub _ z) with e | e
      · exact absurd I.lt (by rw [← e]; exact Nat.lt_irrefl _)
      · exact I.nofs (Nat.le_refl _) e
    · exact nc v z
  · -- len
    show (subσ sub σ).length = N'.length
    unfold subσ
    rw [List.length_map, O.len]
theorem Inv.repin {acc : Addr} {o o' : Obj} {h' : Heap} {t' : Nat} (I : Inv X ((acc, o) :: pins) σ H s) (k : ∀ b u, b ≠ acc → s.heap.get? b = some u → h'.get? b = some u) (e : h'.get? acc = some o') (nc : ∀ v, o'.data ≠ .cell v) (hx : acc ∈ X.ex ∨ X.s₀.heap.objs.size ≤ acc) (np : ∀ p ∈ X.pn ++ pins, p.1 ≠ acc) :
    Inv X ((acc, o') :: pins) σ H { s with heap := h', toks := t' } := by
  have pa := I.pin (acc, o) (List.mem_append_right _ List.mem_cons_self)
  have I1 : Inv X pins σ H s := I.pins_of fun p hp => I.pin p (List.mem_append_right _ (List.mem_cons_of_mem _ hp))
  have I2 : Inv X pins σ H { s with heap := h', toks := t' } := I1.turned (t' := t') (it := acc) k pa.2.1 pa.2.2.1 hx
    (fun y c hy z => by
      obtain ⟨w', o2, ho2, hd2⟩ := I.cell y c hy
      rw [z, pa.1] at ho2
      exact pa.2.2.2.2 _ (by cases ho2; exact hd2)) np
  refine I2.pins_of fun p hp => ?_
  rcases List.mem_cons.mp hp with z | z
  · subst z
    exact ⟨e, pa.2.1, pa.2.2.1, pa.2.2.2.1, nc⟩
  · exact I2.pin p (List.mem_append_right _ z)
end
def compShape (tpos : Pos) (it : Value) (target : Expr) (env : Env) (ifs : List Expr) (body : Sem Unit) (k : Sem Fin) : Sem Fin := do
  standAt tpos
  match ← pyNext it with
  | none => pure (.done .next)
  | some v =>
    letOwnedTupleGo target it v
    assign target env v
    let mut ok := true
    for c in ifs do
      if ok then ok ← isTrue c env (eval c env)
    if ok then
      body
    k
theorem compLoop_gen {prog : Program} {w : World} {A : Around} {R : Result → Shared → Prop} {s : Shared} {e target : Expr} {d : Nat} {tpos : Pos} {ifs : List Expr} {it acc : Value} {env : Env} {body : Sem Unit} (hsh : compTurn e d it acc env = compShape tpos it target env ifs body (again (.compLoop e d it acc env))) (hdn : ∀ (A : Around) (Q : PySem.Fin → Shared → Prop) (E : Value → Shared → Prop) (s : Shared), wpAny (model prog w) A ((compTurn e d it acc env).onRaise (fun x => do noteFrame x env; theTreesLotGoes x)) Q E s → wpAny (model prog w) (A.under (.compLoop e d it acc env)) ((model prog w).den (.compLoop e d it acc env)) Q E s) (I : Nat → Shared → Prop)
    (turn : ∀ n s, I n s → wpAny (model prog w) A (pyNext it) (fun r s₁ => match r with
      | none => R (.ok .next) s₁
      | some v => wpAny (model prog w) A (letOwnedTupleGo target it v) (fun _ s₁' => wpAny (model prog w) A (assign target env v) (fun _ s₂ =>
          wpAny (model prog w) A (forIn ifs true fun c r => if r = true then do let ok ← isTrue c env (eval c env); pure (ForInStep.yield ok) else pure (ForInStep.yield r)) (fun ok s₃ =>
            if ok = true then wpAny (model prog w) A body (fun _ s₅ => ∃ m, m < n ∧ I m s₅) (fun _ _ => False) s₃
            else ∃ m, m < n ∧ I m s₃) (fun _ _ => False) s₂) (fun _ _ => False) s₁') (fun _ _ => False) s₁) (fun _ _ => False) s)
    (n : Nat) (h : I n s) : codeAny (model prog w) A (.compLoop e d it acc env) R s := by
  refine codeAny_loop rfl I (fun n s hI => ?_) n h
  refine hdn _ _ _ _ (wpAny_noted ?_)
  rw [hsh]
  unfold compShape
  refine wpAny_bind (wpAny_standAt (wpAny_bind (wpAny_mono (turn n s hI) (fun r s₁ h₁ => ?_) fun _ _ h' => h'.elim)))
  cases r with
  | none => exact wpAny_pure h₁
  | some v =>
    refine wpAny_bind (wpAny_mono h₁ (fun _ s₁' h₁ => ?_) fun _ _ h' => h'.elim)
    refine wpAny_bind (wpAny_mono h₁ (fun _ s₂ h₂ => wpAny_bind (wpAny_mono h₂ (fun ok s₃ h₃ => ?_) fun _ _ h' => h'.elim)) fun _ _ h' => h'.elim)
    cases ok with
    | false => exact wpAny_pure ⟨rfl, h₃⟩
    | true => exact wpAny_bind (wpAny_mono h₃ (fun _ s₅ h₅ => wpAny_pure ⟨rfl, h₅⟩) fun _ _ h' => h'.elim)
section
variable {AS : Type}
abbrev TB (AS : Type) := AS → St → Hp → (AS → St → Hp → Prop) → Prop
def PBd (X : Cx) (AO : AS → Obj → Prop) (acc : Addr) (body : Sem Unit) (tb : TB AS) : Prop :=
  ∀ (pins : List (Addr × Obj)) (s : Shared) (σ : St) (H : Hp) (a : AS) (o : Obj) (Q : AS → St → Hp → Prop), Inv X ((acc, o) :: pins) σ H s → (∀ p ∈ X.pn ++ pins, p.1 ≠ acc) → (acc ∈ X.ex ∨ X.s₀.heap.objs.size ≤ acc) → AO a o → tb a σ H Q →
    wpAny (model X.prog X.w) X.A body (fun _ s' => ∃ (a' : AS) (o' : Obj) (σ' : St) (H' : Hp), Inv X ((acc, o') :: pins) σ' H' s' ∧ AO a' o' ∧ Q a' σ' H') (fun _ _ => False) s
def gTurns (J : It) (g : TG) (tt : TT) (tb : TB AS) (Q : AS → St → Hp → Prop) (a0 : AS) (σ0 : St) (H0 : Hp) : Prop :=
  ∃ W : Nat → Nat → AS → St → Hp → Prop, (∃ m, W 0 m a0 σ0 H0) ∧ ∀ i m a σ H, W i m a σ H →
    (J.stop i H ∧ Q a σ H) ∨
    (J.go i H ∧ ∀ x H', J.yld i H x H' → g x σ H' fun σ2 H2 => tt σ2 H2 fun b H3 =>
      if b = true then tb a σ2 H3 (fun a' σ' H' => ∃ m', m' < m ∧ W (i + 1) m' a' σ' H') else ∃ m', m' < m ∧ W (i + 1) m' a σ2 H3)
theorem gloop {X : Cx} {AO : AS → Obj → Prop} {e target : Expr} {d : Nat} {tpos : Pos} {ifs : List Expr} {J : It} {fp : List Addr} {it acc : Addr} {tn : Nat → Heap → Prop} {body : Sem Unit} {g : TG} {tt : TT} {tb : TB AS} {Q : AS → St → Hp → Prop} {R : Result → Shared → Prop}
    {pins : List (Addr × Obj)} {s : Shared} {σ : St} {H : Hp} {a : AS} {o : Obj}
    (hc : X.calm = true) (xxe : X.xe = fun _ _ => False) (hsh : compTurn e d (.ref it) (.ref acc) X.env = compShape tpos (.ref it) target X.env ifs body (again (.compLoop e d (.ref it) (.ref acc) X.env))) (hdn : ∀ (A : Around) (Q : PySem.Fin → Shared → Prop) (E : Value → Shared → Prop) (s : Shared), wpAny (model X.prog X.w) A ((compTurn e d (.ref it) (.ref acc) X.env).onRaise (fun x => do noteFrame x X.env; theTreesLotGoes x)) Q E s → wpAny (model X.prog X.w) (A.under (.compLoop e d (.ref it) (.ref acc) X.env)) ((model X.prog X.w).den (.compLoop e d (.ref it) (.ref acc) X.env)) Q E s)
    (T : Turn X.prog X.w X.K target J fp it tn) (st : tn 0 s.heap) (hf : ∀ b ∈ fp, FpOk X ((acc, o) :: pins) H b) (hg : PG X target g) (ht : PTs X ifs tt) (hb : PBd X AO acc body tb)
    (I : Inv X ((acc, o) :: pins) σ H s) (np : ∀ p ∈ X.pn ++ pins, p.1 ≠ acc) (hx : acc ∈ X.ex ∨ X.s₀.heap.objs.size ≤ acc) (ha : AO a o) (rd : gTurns J g tt tb Q a σ H)
    (hR : ∀ (s' : Shared) (a' : AS) (o' : Obj) (σ' : St) (H' : Hp), Inv X ((acc, o') :: pins) σ' H' s' → AO a' o' → Q a' σ' H' → (∀ b ∈ fp, H' b = none) → R (.ok .next) s') :
    codeAny (model X.prog X.w) X.A (.compLoop e d (.ref it) (.ref acc) X.env) R s := by
  obtain ⟨W, ⟨m0, w0⟩, turn⟩ := rd
  have stat : ∀ {o' : Obj} {H' : Hp}, (∀ b ∈ fp, H' b = none) → ∀ b ∈ fp, FpOk X ((acc, o') :: pins) H' b := fun {o' H'} hn b hb => by
    obtain ⟨f0, f1, f2, f3, f4, f5⟩ := hf b hb
    refine ⟨hn b hb, f1, f2, f3, f4, fun p hp => ?_⟩
    rcases List.mem_append.mp hp with z | z
    · exact f5 p (List.mem_append_left _ z)
    · rcases List.mem_cons.mp z with z | z
      · rw [z]; exact f5 (acc, o) (List.mem_append_right _ List.mem_cons_self)
      · exact f5 p (List.mem_append_right _ (List.mem_cons_of_mem _ z))
  refine compLoop_gen hsh hdn (fun n s' => ∃ (i : Nat) (a' : AS) (o' : Obj) (σ' : St) (H' : Hp), Inv X ((acc, o') :: pins) σ' H' s' ∧ AO a' o' ∧ tn i s'.heap ∧ (∀ b ∈ fp, H' b = none) ∧ W i n a' σ' H') ?_ m0 ⟨0, a, o, σ, H, I, ha, st, fun b hb => (hf b hb).1, w0⟩
  rintro n s4 ⟨i, a4, o4, σ4, H4, I4, ha4, st4, fr4, w4⟩
  rcases turn i n a4 σ4 H4 w4 with ⟨stop, q⟩ | ⟨go, step⟩
  · refine thn (T.done X rfl rfl rfl hc i _ s4 σ4 H4 (fun _ _ => False) I4 (stat fr4) st4 stop) fun r s5 ⟨hr, I5⟩ => ?_
    subst hr
    exact hR s5 a4 o4 σ4 H4 I5 ha4 q fr4
  · refine thn (T.item X rfl rfl rfl hc i _ s4 σ4 H4 (fun _ _ => False) I4 (stat fr4) st4 go) fun r s5 ⟨u, hr, h5⟩ => ?_
    subst hr
    refine thn h5 fun _ s6 ⟨x, H6, I6, r6, y6, st6, fr6⟩ => ?_
    have I6' := I6.pinned (stat fr6) (T.obj _ _ st6)
    have back : ∀ {o' : Obj} {σ' : St} {H' : Hp} {s' : Shared}, Inv X ((acc, o') :: (pins ++ pinsAt fp s6.heap)) σ' H' s' → Inv X ((acc, o') :: pins) σ' H' s' ∧ tn (i + 1) s'.heap ∧ ∀ b ∈ fp, H' b = none := fun {o' σ' H' s'} I' => by
      refine ⟨Inv.unpinned (pl := pinsAt fp s6.heap) I', T.keep _ _ _ st6 fun b hb o e => ?_, fun b hb => ?_⟩
      · exact (I'.pin (b, o) (List.mem_append_right _ (List.mem_cons_of_mem _ (List.mem_append_right _ (mem_pinsAt hb e))))).1
      · obtain ⟨o, e, d⟩ := T.obj _ _ st6 b hb
        exact (I'.pin (b, o) (List.mem_append_right _ (List.mem_cons_of_mem _ (List.mem_append_right _ (mem_pinsAt hb e))))).2.1
    have np' : ∀ p ∈ X.pn ++ (pins ++ pinsAt fp s6.heap), p.1 ≠ acc := fun p hp => by
      rcases List.mem_append.mp hp with z | z
      · exact np p (List.mem_append_left _ z)
      · rcases List.mem_append.mp z with z | z
        · exact np p (List.mem_append_right _ z)
        · obtain ⟨hb, _⟩ := of_pinsAt z
          exact Ne.symm ((stat (o' := o4) fr6 p.1 hb).2.2.2.2.2 (acc, o4) (List.mem_append_right _ List.mem_cons_self))
    have tg := hg _ s6 σ4 H6 x u _ I6' r6 (step x H6 y6)
    rw [xxe] at tg
    refine thn tg fun _ s7 ⟨σ7, H7, I7, q7⟩ => ?_
    have tts := ht _ s7 σ7 H7 _ I7 q7
    rw [xxe] at tts
    refine thn tts fun b s8 ⟨H8, I8, q8⟩ => ?_
    cases b with
    | false =>
      rw [if_neg Bool.false_ne_true] at q8 ⊢
      obtain ⟨m', hm', w8⟩ := q8
      obtain ⟨b1, b2, b3⟩ := back I8
      exact ⟨m', hm', i + 1, a4, o4, σ7, H8, b1, ha4, b2, b3, w8⟩
    | true =>
      rw [if_pos rfl] at q8 ⊢
      refine thn (hb _ s8 σ7 H8 a4 o4 _ I8 np' hx ha4 q8) fun _ s9 ⟨a9, o9, σ9, H9, I9, ha9, m', hm', w9⟩ => ?_
      obtain ⟨b1, b2, b3⟩ := back I9
      exact ⟨m', hm', i + 1, a9, o9, σ9, H9, b1, ha9, b2, b3, w9⟩
end
end L2
namespace L2
open PySem PySem.Spec PyProof.Rows
theorem compStart_gen {prog : Program} {w : World} {A : Around} {R : Result → Shared → Prop} {s : Shared} {e : Expr} {d : Nat} {g : Comprehension} {it acc : Value} {env : Env} (hcl : (clausesOf e)[d]? = some g) (hga : g.is_async = 0)
    (hdn : ∀ (A : Around) (Q : PySem.Fin → Shared → Prop) (E : Value → Shared → Prop) (s : Shared), wpAny (model prog w) A ((compStart e d it acc env).onRaise (fun x => do noteFrame x env; standAt theWindowsPlace)) Q E s → wpAny (model prog w) (A.under (.compStart e d it acc env)) ((model prog w).den (.compStart e d it acc env)) Q E s)
    (hq : ∀ it', (Code.compLoop e d it' acc env).quiet = true)
    (h0 : codeAny (model prog w) A (.compLoop e d it acc env) R s)
    (h : wpAny (model prog w) A (pyIter it) (fun it' s' => codeAny (model prog w) A (.compLoop e d it' acc env) R s') (fun _ _ => False) s) : codeAny (model prog w) A (.compStart e d it acc env) R s := by
  refine codeAny_of_tree (hdn _ _ _ _ (wpAny_notedAt ?_))
  unfold compStart
  rw [hcl]
  show wpAny _ _ (if (g.is_async != 0) = true then _ else _) _ _ s
  rw [if_neg (by rw [hga]; decide)]
  refine wpAny_bind (wpAny_askSetting (wpAny_ite ?_))
  split
  · first
      | exact wpAny_bind (wpAny_pure (wpAny_pure (And.intro (hq _) h0)))
      | exact wpAny_pure (And.intro (hq _) h0)
  · exact wpAny_bind (wpAny_rule (wpAny_bind (wpAny_standAt (wpAny_bind (wpAny_mono h (fun it' s' h' => wpAny_pure (And.intro (hq _) h')) fun _ _ x => x.elim)))))
section
variable {X : Cx} {pins : List (Addr × Obj)} {σ : St} {H : Hp} {s : Shared} {AS : Type}
theorem gcore {e target : Expr} {gcl : Comprehension} {tpos : Pos} {ifs : List Expr} {scope : Scope} {N' : List Str} {sub : List (Option Nat)} {J : It} {fp : List Addr} {it : Addr} {tn : Nat → Heap → Prop} {g : TG} {tt : TT} {tb : TB AS} {o0 : Obj} {a0 : AS} {AO : AS → Obj → Prop} {HOf : Addr → AS → HO} {newAcc : Sem Value} {body : Addr → Env → Sem Unit}
    {Qe : AS → Hp → Prop} {E : Value → Shared → Prop} {RR : Value → Addr → Result → Shared → Prop}
    (hnew : ∀ (A : Around) (s : Shared) (Q : Value → Shared → Prop) (E : Value → Shared → Prop), Q (.ref s.heap.objs.size) { s with heap := s.heap.push o0 } → wpAny (model X.prog X.w) A newAcc Q E s) (nf : o0.isFreed = false) (nc : ∀ a o, AO a o → ∀ v, o.data ≠ .cell v) (hA0 : AO a0 o0)
    (hHO : ∀ (H' : Hp) (h : Heap) (acc : Addr) (a : AS) (o : Obj), sysModules < acc → AO a o → h.get? acc = some o → ObjOk X.prog X.w H' h acc (HOf acc a))
    (hcl : (clausesOf e)[0]? = some gcl) (hga : gcl.is_async = 0)
    (hdnS : ∀ (it acc : Value) (env : Env) (A : Around) (Q : PySem.Fin → Shared → Prop) (E : Value → Shared → Prop) (s : Shared), wpAny (model X.prog X.w) A ((compStart e 0 it acc env).onRaise (fun x => do noteFrame x env; standAt theWindowsPlace)) Q E s → wpAny (model X.prog X.w) (A.under (.compStart e 0 it acc env)) ((model X.prog X.w).den (.compStart e 0 it acc env)) Q E s)
    (hdnL : ∀ (it acc : Value) (env : Env) (A : Around) (Q : PySem.Fin → Shared → Prop) (E : Value → Shared → Prop) (s : Shared), wpAny (model X.prog X.w) A ((compTurn e 0 it acc env).onRaise (fun x => do noteFrame x env; theTreesLotGoes x)) Q E s → wpAny (model X.prog X.w) (A.under (.compLoop e 0 it acc env)) ((model X.prog X.w).den (.compLoop e 0 it acc env)) Q E s)
    (hq : ∀ it acc env, (Code.compLoop e 0 it acc env).quiet = true)
    (hsh : ∀ (it acc : Addr) (env : Env), compTurn e 0 (.ref it) (.ref acc) env = compShape tpos (.ref it) target env ifs (body acc env) (again (.compLoop e 0 (.ref it) (.ref acc) env)))
    (hc : X.calm = true) (I : Inv X pins σ H s) (O : CmpOk X.N X.env.scope N' scope sub) (T : Turn X.prog X.w X.K target J fp it tn) (st : tn 0 s.heap) (hf : ∀ b ∈ fp, FpOk X pins H b)
    (B : ∀ C s H fp, PG (cmpOf X scope N' C s H fp) target g ∧ PTs (cmpOf X scope N' C s H fp) ifs tt ∧ ∀ acc, PBd (cmpOf X scope N' C s H fp) AO acc (body acc (cmpOf X scope N' C s H fp).env) tb)
    (rd : gTurns J g tt tb (fun a _ H' => Qe a H') a0 (subσ sub σ) H)
    (hRR : ∀ (acc C : Addr) (a : AS) (H' : Hp) (s' : Shared), Inv X pins σ (upd H' acc (HOf acc a)) s' → FpOk X pins (upd H' acc (HOf acc a)) C → (∃ m, s'.heap.Ns C m) → H' acc = none → Qe a H' → RR (.ref acc) C (.ok .next) s') :
    wpAny (model X.prog X.w) X.A newAcc (fun acc s₃ => wpAny (model X.prog X.w) X.A (newFunctionEnv scope X.env.globals (closL X.env.cells scope.names []) [] X.env.qual none .none (some X.env)) (fun cenv s₄ =>
      codeAny (model X.prog X.w) X.A (.compStart e 0 (.ref it) acc { cenv with scope := relabel scope X.env }) (RR acc cenv.locals) s₄) E s₃) E s := by
  refine hnew _ _ _ _ (wpAny_compEnv ?_)
  have hfl : ∀ b ∈ fp, b < s.heap.objs.size := fun b hb => by
    obtain ⟨o, e, _⟩ := T.obj _ _ st b hb
    exact Heap.lt_size e
  have I0 := inv_compO (o0 := o0) (sub := sub) I O hf hfl nf (nc a0 o0 hA0)
  have sz3 : (s.heap.push o0).objs.size = s.heap.objs.size + 1 := Heap.size_push ..
  dsimp only
  show codeAny _ _ (.compStart _ 0 (.ref it) (.ref s.heap.objs.size) { scope := relabel scope X.env, locals := (s.heap.push o0).objs.size, globals := X.env.globals, cells := cellsFrom ((s.heap.push o0).objs.size + 1) scope.names (closL X.env.cells scope.names []), qual := X.env.qual, func := none, code := X.env.code, frame := X.env.frame, builtins := X.env.builtins })
    (RR (.ref s.heap.objs.size) (s.heap.push o0).objs.size) { s with heap := pushCells ((s.heap.push o0).push { cls := .type "dict", data := .dict #[] }) scope.names }
  rw [sz3]
  show codeAny _ _ (.compStart _ 0 (.ref it) (.ref s.heap.objs.size) (cenvOf X.env scope (s.heap.objs.size + 1))) (RR (.ref s.heap.objs.size) (s.heap.objs.size + 1)) _
  generalize hs0 : ({ s with heap := pushCells ((s.heap.push o0).push { cls := .type "dict", data := .dict #[] }) scope.names } : Shared) = s0 at I0 ⊢
  have hk0 : ∀ b o, s.heap.get? b = some o → s0.heap.get? b = some o := fun b o e => by
    rw [← hs0]
    exact pushCells_keeps _ _ b o (Heap.get?_push_of_some _ (Heap.get?_push_of_some _ e))
  have st0 : tn 0 s0.heap := T.keep _ _ _ st fun b hb o e => hk0 b o e
  clear hs0 sz3
  generalize hX : cmpOf X scope N' (s.heap.objs.size + 1) s H fp = X' at I0
  have xp : X'.prog = X.prog := by rw [← hX]; rfl
  have xw : X'.w = X.w := by rw [← hX]; rfl
  have xK : X'.K = X.K := by rw [← hX]; rfl
  have xA : X'.A = X.A := by rw [← hX]; rfl
  have xc : X'.calm = true := by rw [← hX]; exact hc
  have xe : X'.env = cenvOf X.env scope (s.heap.objs.size + 1) := by rw [← hX]; rfl
  have xx : X'.ex = fp := by rw [← hX]; rfl
  have xf : X'.fs = frs X.stack := by rw [← hX]; rfl
  have xpn : X'.pn = [] := by rw [← hX]; rfl
  have x0 : X'.s₀ = s := by rw [← hX]; rfl
  have xh : X'.H₀ = H := by rw [← hX]; rfl
  have xxe : X'.xe = fun _ _ => False := by rw [← hX]; rfl
  obtain ⟨hg, ht, hbd⟩ := B (s.heap.objs.size + 1) s H fp
  rw [hX] at hg ht hbd
  clear hX
  have f0' : ∀ b ∈ fp, FpOk X' [(s.heap.objs.size, o0)] H b := fun b hb => by
    obtain ⟨f0, f1, f2, f3, f4, f5⟩ := hf b hb
    refine ⟨f0, (I0.ok.exf b (by rw [xx]; exact hb)).1, I0.ok.exfs b (by rw [xx]; exact hb), .inl (by rw [xx]; exact hb), (I0.ok.exf b (by rw [xx]; exact hb)).2, fun p hp' => ?_⟩
    rw [xpn, List.nil_append, List.mem_singleton] at hp'
    rw [hp']
    exact Nat.ne_of_gt (hfl b hb)
  have loop : codeAny (model X.prog X.w) X.A (.compLoop e 0 (.ref it) (.ref s.heap.objs.size) (cenvOf X.env scope (s.heap.objs.size + 1))) (RR (.ref s.heap.objs.size) (s.heap.objs.size + 1)) s0 := by
    have T' : Turn X'.prog X'.w X'.K target J fp it tn := by rw [xp, xw, xK]; exact T
    have hb0 := hbd s.heap.objs.size
    have key := gloop (X := X') (AO := AO) (e := e) (d := 0) (tpos := tpos) (R := RR (.ref s.heap.objs.size) (s.heap.objs.size + 1)) (pins := []) (a := a0) (o := o0) (acc := s.heap.objs.size) xc xxe (hsh it s.heap.objs.size X'.env) (by rw [xp, xw]; exact hdnL _ _ _) T' st0 f0' hg ht hb0 I0 (by rw [xpn]; exact fun p hp => absurd hp (by simp)) (.inr (by rw [x0]; exact Nat.le_refl _)) hA0 rd ?_
    · rw [xp, xw, xA, xe] at key
      exact key
    intro s5 a5 o5 σ5 H4 I5 ha5 q fr5
    have pa := I5.pin (s.heap.objs.size, o5) (by rw [xpn]; simp)
    have nacc : H4 s.heap.objs.size = none := pa.2.1
    have nC : H4 (s.heap.objs.size + 1) = none := by have z := I5.free; rw [xe] at z; exact z
    have un : Un (frs X.stack) fp H H4 s.heap s5.heap := by have z := I5.base; rw [xf, xx, xh, x0] at z; exact z
    have un2 : Un (frs X.stack) fp H (upd H4 s.heap.objs.size (HOf s.heap.objs.size a5)) s.heap s5.heap := by
      refine ⟨un.keep, un.slot, fun b o e n hx => ?_, un.there, fun b xs e => ?_, fun b o u e => ?_, fun b ps e => ?_⟩
      · rw [upd_ne (Nat.ne_of_lt (Heap.lt_size e))]
        exact un.free b o e n hx
      · have z := un.tups b xs e
        rw [upd_ne (ne_of_none z nacc)]; exact z
      · have z := un.frzs b o u e
        rw [upd_ne (ne_of_none z nacc)]; exact z
      · obtain ⟨more, z⟩ := un.tbls b ps e
        exact ⟨more, by rw [upd_ne (ne_of_none z nacc)]; exact z⟩
    have hok5 : HOk X.prog X.w H4 s5.heap := by have z := I5.hok; rw [xp, xw] at z; exact z
    have hok2 : HOk X.prog X.w (upd H4 s.heap.objs.size (HOf s.heap.objs.size a5)) s5.heap := fun b u e => by
      by_cases hb : b = s.heap.objs.size
      · subst hb
        rw [upd_same] at e
        cases e
        exact hHO _ _ _ _ _ I.big ha5 pa.1
      · rw [upd_ne hb] at e
        exact (hok5 b u e).stay (fun _ _ _ q => q) (fun c q => by rw [upd_ne (ne_of_none q nacc)]; exact q) fun c xs q => by rw [upd_ne (ne_of_none q nacc)]; exact q
    have os5 : s5.os = s.os := by have z := I5.os; rw [x0] at z; exact z
    have J5 : Inv X pins σ (upd H4 s.heap.objs.size (HOf s.heap.objs.size a5)) s5 := I.call' os5 un2 hok2 I5.bare fun b hb => by
      obtain ⟨f0, f1, f2, f3, f4, f5⟩ := hf b hb
      exact ⟨f3, f1, f4, f5⟩
    refine hRR _ _ a5 H4 s5 J5 (I.fpOk (Nat.le_succ _) ?_) ?_ nacc q
    · rw [upd_ne (Nat.succ_ne_self _)]; exact nC
    · obtain ⟨m, hn, _⟩ := I5.loc
      rw [xe] at hn
      exact ⟨m, hn⟩
  exact compStart_gen hcl hga (hdnS _ _ _) (fun it' => hq _ _ _) loop (T.self _ 0 _ _ _ st0 loop)
end
end L2
namespace L2
open PySem PySem.Spec PyProof.Rows
def nestBody (e iter2 : Expr) (acc : Addr) (env : Env) : Sem Unit := do
  let x ← eval iter2 env
  standAt iter2.pos
  let x ← foldedSetIterable iter2 env x
  let _ ← runOwn (.compStart e 1 (← holding [x] (pyIter x)) (.ref acc) env) env
def tNest {AS : Type} (wi : TI) (g : TG) (tt : TT) (tb : TB AS) : TB AS := fun a σ H Q => wi σ H fun J H1 => gTurns J g tt tb Q a σ H1
theorem pbd_nest {X : Cx} {AS : Type} {AO : AS → Obj → Prop} {acc : Addr} {e iter2 target2 : Expr} {ifs2 : List Expr} {tpos2 : Pos} {gcl : Comprehension} {body : Sem Unit} {wi : TI} {g : TG} {tt : TT} {tb : TB AS} (hc : X.calm = true) (xxe : X.xe = fun _ _ => False)
    (hi : PI X target2 iter2 wi) (hg : PG X target2 g) (ht : PTs X ifs2 tt) (hb : PBd X AO acc body tb) (hfold : ∀ x, foldedSetIterable iter2 X.env x = pure x)
    (hcl : (clausesOf e)[1]? = some gcl) (hga : gcl.is_async = 0)
    (hsh : ∀ it : Addr, compTurn e 1 (.ref it) (.ref acc) X.env = compShape tpos2 (.ref it) target2 X.env ifs2 body (again (.compLoop e 1 (.ref it) (.ref acc) X.env)))
    (hdnS : ∀ (it : Value) (A : Around) (Q : PySem.Fin → Shared → Prop) (E : Value → Shared → Prop) (s : Shared), wpAny (model X.prog X.w) A ((compStart e 1 it (.ref acc) X.env).onRaise (fun x => do noteFrame x X.env; standAt theWindowsPlace)) Q E s → wpAny (model X.prog X.w) (A.under (.compStart e 1 it (.ref acc) X.env)) ((model X.prog X.w).den (.compStart e 1 it (.ref acc) X.env)) Q E s)
    (hdnL : ∀ (it : Value) (A : Around) (Q : PySem.Fin → Shared → Prop) (E : Value → Shared → Prop) (s : Shared), wpAny (model X.prog X.w) A ((compTurn e 1 it (.ref acc) X.env).onRaise (fun x => do noteFrame x X.env; theTreesLotGoes x)) Q E s → wpAny (model X.prog X.w) (A.under (.compLoop e 1 it (.ref acc) X.env)) ((model X.prog X.w).den (.compLoop e 1 it (.ref acc) X.env)) Q E s)
    (hq : ∀ it, (Code.compLoop e 1 it (.ref acc) X.env).quiet = true) : PBd X AO acc (nestBody e iter2 acc X.env) (tNest wi g tt tb) := by
  intro pins s σ H a o Q I np hx ha h
  have h0 := hi _ s σ H _ I h
  rw [xxe] at h0
  unfold nestBody
  refine wpAny_bind (thn h0 fun v s1 h1 => wpAny_bind (wpAny_standAt (wpAny_bind (wpAny_of_eq (hfold v) (wpAny_bind (wpAny_holding (thn h1 fun itv s2 h2 => ?_)))))))
  obtain ⟨it, fp, tn, J, H2, e2, I2, T, st2, f2, rd⟩ := h2
  subst e2
  refine wpAny_bind (wpAny_runOwn ?_)
  have loop := gloop (X := X) (AO := AO) (e := e) (d := 1) (tpos := tpos2) (R := fun r s' => match r with
      | .ok f => wpAny (model X.prog X.w) X.A (pure () : Sem Unit) (fun _ s' => ∃ (a' : AS) (o' : Obj) (σ' : St) (H' : Hp), Inv X ((acc, o') :: pins) σ' H' s' ∧ AO a' o' ∧ Q a' σ' H') (fun _ _ => False) s'
      | .error e => cameBackBy (model X.prog X.w) X.A X.env (fun _ _ => False) e s') hc xxe (hsh it) (hdnL _) T st2 f2 hg ht hb I2 np hx ha rd
    (fun s' a' o' σ' H' I' ha' q' _ => wpAny_pure ⟨a', o', σ', H', I', ha', q'⟩)
  exact compStart_gen hcl hga (hdnS _) hq loop (T.self _ 0 _ _ _ st2 loop)
def StrObj (P : Program) (w : World) (ss : List Str) (o : Obj) : Prop :=
  ∃ (es : Array (Int × Value)) (ep : Nat) (t : SetTable), o = sOb es ep t ∧ ElemsOf (PySem.strKind P w) es.toList ∧ StrsAre (es.toList.map (·.2)) ss ∧ es.size < scanBound ∧ t.fits es.size = true ∧ t.led = !w.params.followText "set-order" ∧ (es.size ≠ 0 → t.plain = false)
theorem StrObj.set {P : Program} {w : World} {ss : List Str} {o : Obj} {h : Heap} {a : Addr} (x : StrObj P w ss o) (e : h.get? a = some o) : StrSet P w h a ss := by
  obtain ⟨es, ep, t, rfl, r⟩ := x
  exact ⟨es, ep, t, e, r⟩
theorem StrSet.obj {P : Program} {w : World} {ss : List Str} {h : Heap} {a : Addr} (x : StrSet P w h a ss) : ∃ o, h.get? a = some o ∧ StrObj P w ss o := by
  obtain ⟨es, ep, t, e, r⟩ := x
  exact ⟨_, e, es, ep, t, rfl, r⟩
theorem StrObj.nocell {P : Program} {w : World} {ss : List Str} {o : Obj} (x : StrObj P w ss o) : ∀ v, o.data ≠ .cell v := by
  obtain ⟨es, ep, t, rfl, _⟩ := x
  intro v z; cases z
def setBody (elt : Expr) (acc : Addr) (env : Env) : Sem Unit := do
  let v ← eval elt env
  standAt elt.pos
  let _ ← call (.builtin "set.add") [.ref acc, v]
def tPut (te : TE) : TB (List Str) := fun ss σ H Q => te σ H fun v H' => ∃ x : Str, v = .str x ∧ ss.length < 1000 ∧ ∀ ss', (if x ∈ ss then ss' = ss else ss'.Perm (ss ++ [x])) → Q ss' σ H'
theorem pbd_set {X : Cx} {acc : Addr} {elt : Expr} {te : TE} (xxe : X.xe = fun _ _ => False) (he : PE X elt te) : PBd X (StrObj X.prog X.w) acc (setBody elt acc X.env) (tPut te) := by
  intro pins s σ H a o Q I np hx ha h
  have h0 := he _ s σ H _ I h
  rw [xxe] at h0
  unfold setBody
  refine wpAny_bind (thn h0 fun v s1 ⟨y, H1, I1, r1, x, ex, hl, q⟩ => wpAny_bind (wpAny_standAt (wpAny_bind ?_)))
  subst ex
  obtain ⟨tk, rfl⟩ := r1
  have pa := I1.pin (acc, o) (List.mem_append_right _ List.mem_cons_self)
  have hS : StrSet X.prog X.w s1.heap acc a := ha.set pa.1
  have hT : s1.TypeIs (.ref acc) "set" := by
    obtain ⟨es, ep, t, ho, _⟩ := hS
    exact ⟨_, ho, rfl⟩
  refine wpAny_call_entry PySem.F.slot_set_add hT PySem.F.entry_set_add ?_ (PySem.F.args_set_add_2 _ _)
  unfold Builtin.«set.add» Builtin.Frozenset.oneOther
  simp only [List.isEmpty_nil, bind_assoc]
  unfold Builtin.Frozenset.addrOf setAdd
  refine wpAny_bind (wpAny_pure ?_)
  try dsimp only
  refine wpAny_bind (wpAny_pure ?_)
  try dsimp only
  refine wpAny_bind (wpAny_holding (wpAny_bind ((PySem.strKind X.prog X.w).pyHash (strKind_is X.prog X.w x tk) ?_)))
  refine tset_add (s := { s1 with toks := s1.toks + 1 }) hS (by have : scanBound = 4096 := rfl; omega) fun h2 ss2 sb2 hS2 q2 => ?_
  show wpAny _ _ (ret Value.none) _ _ _
  refine wpAny_pure ⟨_, rfl, wpAny_pure ?_⟩
  obtain ⟨o2, e2, ho2⟩ := hS2.obj
  exact ⟨ss2, o2, σ, H1, I1.repin (t' := s1.toks + 1) (fun b u hb e => (sb2.2 b hb).trans e) e2 ho2.nocell hx np, ho2, q ss2 q2⟩
end L2
namespace L2
open PySem PySem.Spec PyProof.Rows
structure GC (P : Program) (w : World) {AS : Type} (e target iter : Expr) (ifs : List Expr) (scope : Scope) (tpos : Pos) (newAcc : Sem Value) (body : Addr → Env → Sem Unit) (o0 : Obj) (a0 : AS) (AO : AS → Obj → Prop) (HOf : Addr → AS → HO) : Prop where
  new : ∀ (A : Around) (s : Shared) (Q : Value → Shared → Prop) (E : Value → Shared → Prop), Q (.ref s.heap.objs.size) { s with heap := s.heap.push o0 } → wpAny (model P w) A newAcc Q E s
  nf : o0.isFreed = false
  nc : ∀ a o, AO a o → ∀ v, o.data ≠ .cell v
  hA0 : AO a0 o0
  hHO : ∀ (H' : Hp) (h : Heap) (acc : Addr) (a : AS) (o : Obj), sysModules < acc → AO a o → h.get? acc = some o → ObjOk P w H' h acc (HOf acc a)
  cl : ∃ gs, clausesOf e = ⟨target, iter, ifs, 0⟩ :: gs
  dnS : ∀ (it acc : Value) (env : Env) (A : Around) (Q : PySem.Fin → Shared → Prop) (E : Value → Shared → Prop) (s : Shared), wpAny (model P w) A ((compStart e 0 it acc env).onRaise (fun x => do noteFrame x env; standAt theWindowsPlace)) Q E s → wpAny (model P w) (A.under (.compStart e 0 it acc env)) ((model P w).den (.compStart e 0 it acc env)) Q E s
  dnL : ∀ (it acc : Value) (env : Env) (A : Around) (Q : PySem.Fin → Shared → Prop) (E : Value → Shared → Prop) (s : Shared), wpAny (model P w) A ((compTurn e 0 it acc env).onRaise (fun x => do noteFrame x env; theTreesLotGoes x)) Q E s → wpAny (model P w) (A.under (.compLoop e 0 it acc env)) ((model P w).den (.compLoop e 0 it acc env)) Q E s
  q : ∀ it acc env, (Code.compLoop e 0 it acc env).quiet = true
  sh : ∀ (it acc : Addr) (env : Env), compTurn e 0 (.ref it) (.ref acc) env = compShape tpos (.ref it) target env ifs (body acc env) (again (.compLoop e 0 (.ref it) (.ref acc) env))
def tGath {AS : Type} (sub : List (Option Nat)) (wi : TI) (g : TG) (tt : TT) (tb : TB AS) (a0 : AS) (HOf : Addr → AS → HO) : TE := fun σ H Q => wi σ H fun J H1 =>
  gTurns J g tt tb (fun a _ H' => ∀ r, H' r = none → Q (.ref r) (upd H' r (HOf r a))) a0 (subσ sub σ) H1
section
variable {X : Cx} {AS : Type} {e target iter : Expr} {ifs : List Expr} {scope sc : Scope} {pos tpos cpos : Pos} {N N' : List Str} {sub : List (Option Nat)} {wi : TI} {g : TG} {tt : TT} {tb : TB AS} {newAcc : Sem Value} {body : Addr → Env → Sem Unit} {o0 : Obj} {a0 : AS} {AO : AS → Obj → Prop} {HOf : Addr → AS → HO}
theorem pe_g (GG : GC X.prog X.w e target iter ifs scope tpos newAcc body o0 a0 AO HOf) (hev : eval e X.env = comprehension e scope X.env cpos newAcc false (eval iter X.env)) (hN : X.N = N) (hsc : X.env.scope = sc) (O : CmpOk N sc N' scope sub) (hc : X.calm = true) (hi : PI X target iter wi)
    (B : ∀ C s H fp, PG (cmpOf X scope N' C s H fp) target g ∧ PTs (cmpOf X scope N' C s H fp) ifs tt ∧ ∀ acc, PBd (cmpOf X scope N' C s H fp) AO acc (body acc (cmpOf X scope N' C s H fp).env) tb)
    (hs : ∀ x, foldedSetIterable iter X.env x = pure x := by intro _; rfl) : PE X e (tGath sub wi g tt tb a0 HOf) := by
  subst hN hsc
  intro pins s σ H Q I h
  rw [hev]
  obtain ⟨gs, hcl⟩ := GG.cl
  refine wpAny_comprehension_free (use := none) hcl hs (clos_of I O) O.kind (names_of O) (thn (hi pins s σ H _ I h) fun v s1 h1 => thn h1 fun itv s2 h2 => ?_)
  obtain ⟨it, fp, tn, J, H2, e, I2, T, st2, f2, rd⟩ := h2
  subst e
  refine gcore (RR := fun acc C => compPost (model X.prog X.w) X.A X.xe none (EP X pins σ Q) acc C) GG.new GG.nf GG.nc GG.hA0 GG.hHO (by rw [hcl]; rfl) rfl GG.dnS GG.dnL GG.q GG.sh hc I2 O T st2 f2 B rd fun acc C a H' s' I' fC hn na q => ?_
  obtain ⟨m, hn⟩ := hn
  obtain ⟨f0, f1, f3, f4, f5, f6⟩ := fC
  refine ⟨m, hn, fun h' sb => ?_⟩
  exact ⟨.ref acc, upd H' acc (HOf acc a), I'.turned (t' := s'.toks) (it := C) (fun b o hb e => (sb.2 b hb).trans e) f0 f1 f4 f5 f6, rfl, q acc na⟩
end
section
variable {P : Program} {w : World} {target iter target2 iter2 elt kx vx : Expr} {ifs ifs2 : List Expr} {scope : Scope} {pos : Pos}
theorem gc_set2 : GC P w (.SetComp elt [⟨target, iter, ifs, 0⟩, ⟨target2, iter2, ifs2, 0⟩] scope pos) target iter ifs scope iter.pos (newSet (.type "set")) (nestBody (.SetComp elt [⟨target, iter, ifs, 0⟩, ⟨target2, iter2, ifs2, 0⟩] scope pos) iter2) (setO w) ([] : List Str) (StrObj P w) (SetS P w) where
  new := fun A s Q E h => by
    unfold newSet setsByText
    refine wpAny_bind (wpAny_bind (wpAny_askSetting (wpAny_pure ?_)))
    dsimp only
    simp only [newObj]
    exact wpAny_bind (wpAny_alloc (wpAny_pure h))
  nf := rfl
  nc := fun a o h => h.nocell
  hA0 := by
    obtain ⟨o, e, r⟩ := (setO_ok P w (h := (({} : Heap).push (setO w))) (a := ({} : Heap).objs.size) (Heap.get?_push_size _ rfl)).obj
    rw [Heap.get?_push_size _ rfl] at e
    cases e
    exact r
  hHO := fun H' h acc a o _ x e => ⟨x.set e, ⟨o, e⟩, fun h1 h2 z k => z.at k⟩
  cl := ⟨_, rfl⟩
  dnS := fun _ _ _ _ _ _ _ h => h
  dnL := fun _ _ _ _ _ _ _ h => h
  q := fun _ _ _ => rfl
  sh := fun it acc env => by
    unfold compShape nestBody
    simp only [bind_assoc]
    rfl
end
end L2
namespace L2
open PySem PySem.Spec PyProof.Rows
end L2
namespace L2
open PySem PySem.Spec PyProof.Rows
end L2
namespace L2
open PySem PySem.Spec PyProof.Rows
section
variable {X : Cx}
end
end L2
namespace L2
open PySem PySem.Spec PyProof.Rows PySem.W
abbrev Rng (n : Nat) : Array Nat := List.toArray (List.range n)
def Gd (n : Nat) (p : Array Nat) : Prop := p.Perm (Rng n)
theorem Gd.lt {n : Nat} {p : Array Nat} (h : Gd n p) (h0 : 0 < n) (i : Nat) : p.getD i 0 < n := by
  by_cases hi : i < p.size
  · have e : p.getD i 0 = p[i] := by simp [Array.getD, hi]
    rw [e]
    have m : p[i] ∈ p.toList := by simp
    have m2 := (Array.perm_iff_toList_perm.mp h).mem_iff.mp m
    simpa using m2
  · have e : p.getD i 0 = 0 := by simp [Array.getD, hi]
    rw [e]; exact h0
theorem Gd.rev {n : Nat} {p : Array Nat} (h : Gd n p) (i j : Nat) : Gd n (kas_rev p i j) := (mirror_perm _ _ _ _).trans h
theorem Gd.bub {n : Nat} {p : Array Nat} (h : Gd n p) (i j : Nat) : Gd n (bubble p i j) := (bubble_perm _ _ _).trans h
section
variable {n : Nat} {cmp : Nat → Nat → (Bool → Shared → Prop) → Shared → Prop} {s : Shared} (hask : ∀ i j C, i < n → j < n → (∀ b, C b s) → cmp i j C s) (h0 : 0 < n)
include hask h0
end
def TupS (h : Heap) (v : Value) (t : List Str) : Prop := ∃ a its, v = .ref a ∧ IsTup h a its ∧ StrsAre its.toList t ∧ t ≠ []
section
variable {P : Program} {w : World} {A : Around} {E : Value → Shared → Prop} {s : Shared}
theorem tups_firsts {h h' : Heap} {a : Addr} (k : ∀ b o, b ≠ a → h.get? b = some o → h'.get? b = some o) : ∀ {vs : List Value} {ts : List (List Str)}, Paired (TupS h) vs ts → (∀ v ∈ vs, v ≠ .ref a) → ∃ fs : List Value, KatTups h' vs fs ∧ fs.length = vs.length ∧ ∀ f ∈ fs, ∃ x t, f = Value.str x t
  | _, _, .nil, _ => ⟨[], trivial, rfl, fun f hf => by cases hf⟩
  | _, _, @Paired.cons _ _ _ v t l1 l2 hh tt, hn => by
    obtain ⟨fs, q1, q2, q3⟩ := tups_firsts k tt fun u hu => hn u (List.mem_cons_of_mem _ hu)
    obtain ⟨b, its, rfl, ⟨o, g, c, n, d⟩, st, ne⟩ := hh
    have nb : b ≠ a := fun z => hn _ List.mem_cons_self (by rw [z])
    cases t with
    | nil => exact absurd rfl ne
    | cons x r =>
      have e := st.strs
      cases hi : its.toList with
      | nil => rw [hi] at e; cases e
      | cons f fr =>
        have hf : its[0]? = some f := by rw [← Array.getElem?_toList, hi]; rfl
        refine ⟨f :: fs, .cons (k b o nb g) c d hf q1, by simp [q2], fun g' hg' => ?_⟩
        rcases List.mem_cons.mp hg' with z | z
        · subst z
          exact st.all _ (by rw [hi]; exact List.mem_cons_self)
        · exact q3 g' z
end
end L2
namespace L2
open PySem PySem.Spec PyProof.Rows PySem.W
section
variable {X : Cx}
theorem refs_of : ∀ {as : List Addr} {us : List Value}, Vals (as.map V.ref) us → us = as.map Value.ref
  | [], _, r => by cases r; rfl
  | a :: as, _, r => by
    cases r with
    | cons h t => cases h; rw [refs_of t]; rfl
theorem vals_refs : ∀ as : List Addr, Vals (as.map V.ref) (as.map Value.ref)
  | [] => .nil
  | a :: as => .cons rfl (vals_refs as)
theorem tups_mk {pins : List (Addr × Obj)} {s : Shared} {σ : St} {H : Hp} {h' : Heap} (I : Inv X pins σ H s) (k : ∀ b o, s.heap.get? b = some o → h'.get? b = some o) : ∀ {as : List Addr} {ts : List (List Str)}, Paired (fun a t => SqT X.K H a (t.map V.str) ∧ t ≠ []) as ts → Paired (TupS h') (as.map Value.ref) ts
  | _, _, .nil => .nil
  | _, _, .cons h t => by
    obtain ⟨h1, h2⟩ := h
    obtain ⟨its, rv, ⟨o, g, c, n, d⟩, _⟩ := I.tuple h1
    exact .cons ⟨_, its.toArray, rfl, ⟨o, k _ _ g, c, n, d⟩, by simpa using strsAre_of rv, h2⟩ (tups_mk I k t)
theorem tups_lt {pins : List (Addr × Obj)} {s : Shared} {σ : St} {H : Hp} (I : Inv X pins σ H s) : ∀ {as : List Addr} {ts : List (List Str)}, Paired (fun a t => SqT X.K H a (t.map V.str) ∧ t ≠ []) as ts → ∀ b ∈ as, b < s.heap.objs.size
  | _, _, .nil, b, hb => by cases hb
  | _, _, .cons h t, b, hb => by
    rcases List.mem_cons.mp hb with z | z
    · subst z
      obtain ⟨its, rv, ⟨o, g, _⟩, _⟩ := I.tuple h.1
      exact Heap.lt_size g
    · exact tups_lt I t b z
end
end L2
namespace L2
open PySem PySem.Spec PyProof.Rows PySem.W
section
variable {AS : Type} {g : TG} {tt : TT} {tb : TB AS} {Q : AS → St → Hp → Prop} {a0 : AS} {σ0 : St} {H0 : Hp}
def NxG (n i : Nat) (Pv : Nat → AS → St → Hp → Prop) (a : AS) (σ : St) (H : Hp) : Prop := ∃ m', m' < n - i ∧ m' = n - (i + 1) ∧ i + 1 ≤ n ∧ Pv (i + 1) a σ H
theorem nxg {n i : Nat} {Pv : Nat → AS → St → Hp → Prop} {a : AS} {σ : St} {H : Hp} (hi : i < n) (h : Pv (i + 1) a σ H) : NxG n i Pv a σ H := ⟨_, by omega, rfl, hi, h⟩
theorem g_list {K : PySem.W.Frag} {p : Addr} {xs : List V} (Pv : Nat → AS → St → Hp → Prop) (h0 : Pv 0 a0 σ0 H0) (hl : ∀ i a σ H, i ≤ xs.length → Pv i a σ H → SqL K H p xs)
    (hs : ∀ i x a σ H, xs[i]? = some x → Pv i a σ H → g x σ H fun σ2 H2 => tt σ2 H2 fun b H3 => if b = true then tb a σ2 H3 (NxG xs.length i Pv) else NxG xs.length i Pv a σ2 H3)
    (hd : ∀ a σ H, Pv xs.length a σ H → Q a σ H) : gTurns (Itl K p) g tt tb Q a0 σ0 H0 := by
  refine ⟨fun i m a σ H => m = xs.length - i ∧ i ≤ xs.length ∧ Pv i a σ H, ⟨xs.length, by simp, Nat.zero_le _, h0⟩, ?_⟩
  rintro i m a σ H ⟨rfl, hi, pv⟩
  have q := hl i a σ H hi pv
  by_cases hlt : i < xs.length
  · refine .inr ⟨⟨xs, xs[i], q, by simp [hlt]⟩, fun x H' y => ?_⟩
    obtain ⟨e, y⟩ := y
    subst e
    exact hs i x a σ _ (y xs q) pv
  · have e : i = xs.length := by omega
    subst e
    exact .inl ⟨⟨xs, q, Nat.le_refl _⟩, hd a σ H pv⟩
theorem g_tuple {K : PySem.W.Frag} {p : Addr} {xs : List V} (Pv : Nat → AS → St → Hp → Prop) (h0 : Pv 0 a0 σ0 H0) (hl : ∀ i a σ H, i ≤ xs.length → Pv i a σ H → SqT K H p xs)
    (hs : ∀ i x a σ H, xs[i]? = some x → Pv i a σ H → g x σ H fun σ2 H2 => tt σ2 H2 fun b H3 => if b = true then tb a σ2 H3 (NxG xs.length i Pv) else NxG xs.length i Pv a σ2 H3)
    (hd : ∀ a σ H, Pv xs.length a σ H → Q a σ H) : gTurns (Itt K p) g tt tb Q a0 σ0 H0 := by
  refine ⟨fun i m a σ H => m = xs.length - i ∧ i ≤ xs.length ∧ Pv i a σ H, ⟨xs.length, by simp, Nat.zero_le _, h0⟩, ?_⟩
  rintro i m a σ H ⟨rfl, hi, pv⟩
  have q := hl i a σ H hi pv
  by_cases hlt : i < xs.length
  · refine .inr ⟨⟨xs, xs[i], q, by simp [hlt]⟩, fun x H' y => ?_⟩
    obtain ⟨e, y⟩ := y
    subst e
    exact hs i x a σ _ (y xs q) pv
  · have e : i = xs.length := by omega
    subst e
    exact .inl ⟨⟨xs, q, Nat.le_refl _⟩, hd a σ H pv⟩
end
section
variable {X : Cx}
theorem call_range1' : CallR X (.type "range") (fun xs H Q => ∃ j : Int, xs = [.int j] ∧ 0 ≤ j ∧ j ≤ 1000 ∧ ∀ r, H r = none → Q (.ref r) (upd H r (.rng 0 j))) := by
  intro pins s σ H xs us Q I r h
  obtain ⟨j, rfl, h0, h1, q⟩ := h
  obtain ⟨u, rfl, t, rfl⟩ := vals1 r
  refine call_range_1 ?_
  exact ⟨.ref s.heap.objs.size, _, I.laid (a := s.heap.objs.size) (o := .rng 0 j) (fun b o e => Heap.get?_push_of_some _ e) (Nat.le_refl _) ⟨_, _, _, Heap.get?_push_size _ rfl⟩, rfl, q _ (I.hok.fresh (Nat.le_refl _))⟩
theorem ints_vals : ∀ {its : List Value} {n : Nat} (k : Nat), its.length = n → (∀ i v, its[i]? = some v → ∃ t, v = Value.int ((k + i : Nat) : Int) t) → Vals ((List.range' k n).map fun (i : Nat) => V.int (i : Int)) its
  | [], n, k, hl, _ => by
    have e : n = 0 := hl.symm
    subst e; exact .nil
  | v :: r, n, k, hl, h => by
    obtain ⟨m, rfl⟩ : ∃ m, n = m + 1 := ⟨n - 1, by simp at hl; omega⟩
    rw [List.range'_succ, List.map_cons]
    refine .cons ?_ (ints_vals (k + 1) (by simpa using hl) fun i v hv => ?_)
    · obtain ⟨t, e⟩ := h 0 v rfl
      exact ⟨t, by rw [e, Nat.add_zero]⟩
    · obtain ⟨t, e⟩ := h (i + 1) v (by simpa using hv)
      exact ⟨t, by rw [e, show k + (i + 1) = k + 1 + i by omega]⟩
theorem call_list_rng (hc : X.calm = true) : CallR X (.type "list") (fun xs H Q => ∃ (r : Addr) (j : Int), xs = [.ref r] ∧ H r = some (.rng 0 j) ∧ 0 ≤ j ∧ j ≤ 1000 ∧ ∀ l, H l = none → Q (.ref l) (upd H l (.lst ((List.range j.toNat).map fun (i : Nat) => V.int (i : Int))))) := by
  intro pins s σ H xs us Q I r h
  obtain ⟨p, j, rfl, hp, h0, h1, q⟩ := h
  obtain ⟨u, rfl, rx⟩ := vals1 r
  cases rx
  obtain ⟨t, u, v, e⟩ := I.hok p _ hp
  refine call_list_range (n := j.toNat) (a := 0) (b := j) (c := 1) (I.ok.hd hc) e (small_one (by decide) (by decide) (by omega) (by omega)) (by rw [rangeSize_one]; split <;> omega) (by omega) fun h' tk acc' c' hk hS hacc => ?_
  refine ⟨.ref s.heap.objs.size, _, I.laid (t' := tk) (a := s.heap.objs.size) (o := .lst ((List.range j.toNat).map fun (i : Nat) => V.int (i : Int))) (fun b o e => hk b o e) (Nat.le_refl _) ⟨?_, acc'.toList, c', ?_, by rw [Array.toArray_toList]; exact hS⟩, rfl, q _ (I.hok.fresh (Nat.le_refl _))⟩
  · rw [List.length_map, List.length_range]
    exact Nat.le_of_lt (small1000 (by omega))
  · rw [List.range_eq_range']
    refine ints_vals 0 (by rw [Array.length_toList]; exact hacc.1) fun i v hv => ?_
    obtain ⟨t, e⟩ := hacc.2 i v (by rw [← Array.getElem?_toList]; exact hv)
    exact ⟨t, by rw [e]; congr 1; omega⟩
end
end L2
namespace L2
open PySem PySem.Spec PyProof.Rows PySem.W
structure Ordr (lt : Nat → Nat → Bool) : Prop where
  asym : ∀ a b, lt a b = true → lt b a = false
  tr : ∀ a b c, lt b a = false → lt c b = false → lt c a = false
theorem Ordr.irr {lt : Nat → Nat → Bool} (o : Ordr lt) (a : Nat) : lt a a = false := by
  cases h : lt a a with
  | false => rfl
  | true => exact (o.asym a a h).symm.trans h ▸ rfl
def SPk (lt : Nat → Nat → Bool) (p : Array Nat) (k : Nat) : Prop := ∀ i j, i < j → j < k → lt (p.getD j 0) (p.getD i 0) = false
def DPk (lt : Nat → Nat → Bool) (p : Array Nat) (k : Nat) : Prop := ∀ i j, i < j → j < k → lt (p.getD i 0) (p.getD j 0) = false
def ERk (lt : Nat → Nat → Bool) (p : Array Nat) (a b : Nat) : Prop := ∀ i j, a ≤ i → i < b → a ≤ j → j < b → lt (p.getD i 0) (p.getD j 0) = false
theorem Gd.size {n : Nat} {p : Array Nat} (h : Gd n p) : p.size = n := by
  have := Array.Perm.size_eq h
  simpa using this
theorem rev_at {p : Array Nat} {i j : Nat} (hj : j ≤ p.size) (k : Nat) : (kas_rev p i j).getD k 0 = if i ≤ k ∧ k < j then p.getD (i + j - 1 - k) 0 else p.getD k 0 := by
  unfold kas_rev
  rw [Array.getD_eq_getD_getElem?, getElem?_mirror_all hj]
  split <;> rw [← Array.getD_eq_getD_getElem?]
theorem bub_at {p : Array Nat} {k l : Nat} (hk : k < p.size) (hl : l ≤ k) (i : Nat) : (bubble p k (k - l)).getD i 0 = if i = l then p.getD k 0 else if l < i ∧ i ≤ k then p.getD (i - 1) 0 else p.getD i 0 := by
  rw [Array.getD_eq_getD_getElem?, getElem?_bubble hk _ (by omega)]
  have e : k - (k - l) = l := by omega
  rw [e]
  by_cases e1 : i = l
  · rw [if_pos e1, if_pos e1, ← Array.getD_eq_getD_getElem?]
  · rw [if_neg e1, if_neg e1]
    by_cases e2 : l < i ∧ i ≤ k
    · rw [if_pos e2, if_pos e2, ← Array.getD_eq_getD_getElem?]
    · rw [if_neg e2, if_neg e2, ← Array.getD_eq_getD_getElem?]
section
variable {lt : Nat → Nat → Bool} (o : Ordr lt)
include o
theorem SPk.snoc {p : Array Nat} {k : Nat} (h : SPk lt p k) (h1 : 1 ≤ k) (hk : lt (p.getD k 0) (p.getD (k - 1) 0) = false) : SPk lt p (k + 1) := fun i j hij hj => by
  by_cases e : j = k
  · subst e
    by_cases e2 : i = j - 1
    · subst e2; exact hk
    · exact o.tr _ _ _ (h i (j - 1) (by omega) (by omega)) hk
  · exact h i j hij (by omega)
theorem DPk.snoc {p : Array Nat} {k : Nat} (h : DPk lt p k) (h1 : 1 ≤ k) (hk : lt (p.getD (k - 1) 0) (p.getD k 0) = false) : DPk lt p (k + 1) := fun i j hij hj => by
  by_cases e : j = k
  · subst e
    by_cases e2 : i = j - 1
    · subst e2; exact hk
    · exact o.tr _ _ _ hk (h i (j - 1) (by omega) (by omega))
  · exact h i j hij (by omega)
omit o in
theorem DPk.rev {p : Array Nat} {a b k : Nat} (h : DPk lt p k) (hb : b ≤ p.size) (hbk : b ≤ k) (e : ERk lt p a b) : DPk lt (kas_rev p a b) k := fun i j hij hj => by
  rw [rev_at hb, rev_at hb]
  split
  · split
    · exact e _ _ (by omega) (by omega) (by omega) (by omega)
    · exact h _ _ (by omega) (by omega)
  · split
    · exact h _ _ (by omega) (by omega)
    · exact h _ _ (by omega) (by omega)
omit o in
theorem DPk.turn {p : Array Nat} {k : Nat} (h : DPk lt p k) (hk : k ≤ p.size) : SPk lt (kas_rev p 0 k) k := fun i j hij hj => by
  rw [rev_at hk, rev_at hk, if_pos (by omega), if_pos (by omega)]
  exact h _ _ (by omega) (by omega)
variable {n : Nat} {cmp : Nat → Nat → (Bool → Shared → Prop) → Shared → Prop} {s : Shared} (hask : ∀ i j C, i < n → j < n → C (lt i j) s → cmp i j C s) (h0 : 0 < n)
include hask h0
theorem sk_asc {p : Array Nat} (g : Gd n p) {Q : Nat → Shared → Prop} (N : Nat) (hq : ∀ m, SPk lt p m → 1 ≤ m → m ≤ N → (m < N → lt (p.getD m 0) (p.getD (m - 1) 0) = true) → Q m s) : ∀ f m, 1 ≤ m → m + f = N → SPk lt p m → (kas_asc p f m).kasWp cmp Q s
  | 0, m, h1, hN, sp => hq m sp h1 (by omega) (fun z => by omega)
  | f + 1, m, h1, hN, sp => by
    refine hask _ _ _ (g.lt h0 _) (g.lt h0 _) ?_
    dsimp only
    split
    · rename_i c
      exact hq m sp h1 (by omega) fun _ => c
    · rename_i c
      exact sk_asc g N hq f (m + 1) (by omega) (by omega) (sp.snoc o h1 (by simpa using c))
theorem sk_desc {Q : Array Nat × Nat × Nat → Shared → Prop} (N : Nat) (hN : N ≤ n) (hq : ∀ p m q, Gd n p → 1 ≤ m → q + 1 ≤ m → m ≤ N → DPk lt p m → ERk lt p (m - (q + 1)) m → Q (p, m, q) s) : ∀ f p m q, Gd n p → 1 ≤ m → q + 1 ≤ m → m + f = N → DPk lt p m → ERk lt p (m - (q + 1)) m → (kas_desc f p m q).kasWp cmp Q s
  | 0, p, m, q, g, h1, h2, h3, dp, er => hq p m q g h1 h2 (by omega) dp er
  | f + 1, p, m, q, g, h1, h2, h3, dp, er => by
    have sz := g.size
    refine hask _ _ _ (g.lt h0 _) (g.lt h0 _) ?_
    dsimp only
    split
    · rename_i c
      have dp' := dp.snoc o h1 (o.asym _ _ c)
      have one : ∀ p' : Array Nat, ERk lt p' (m + 1 - (0 + 1)) (m + 1) := fun p' i j hi hi' hj hj' => by
        have e1 : i = m := by omega
        have e2 : j = m := by omega
        subst e1 e2
        exact o.irr _
      split
      · exact sk_desc N hN hq f _ (m + 1) 0 (g.rev _ _) (by omega) (by omega) (by omega) (dp'.rev (by omega) (by omega) er) (one _)
      · exact sk_desc N hN hq f p (m + 1) 0 g (by omega) (by omega) (by omega) dp' (one _)
    · rename_i c
      refine hask _ _ _ (g.lt h0 _) (g.lt h0 _) ?_
      dsimp only
      split
      · exact hq p m q g h1 h2 (by omega) dp er
      · rename_i d
        have c' : lt (p.getD m 0) (p.getD (m - 1) 0) = false := by simpa using c
        have d' : lt (p.getD (m - 1) 0) (p.getD m 0) = false := by simpa using d
        refine sk_desc N hN hq f p (m + 1) (q + 1) g (by omega) (by omega) (by omega) (dp.snoc o h1 d') fun i j hi hi' hj hj' => ?_
        by_cases ei : i = m
        · subst ei
          by_cases ej : j = i
          · subst ej; exact o.irr _
          · exact o.tr _ _ _ (er (i - 1) j (by omega) (by omega) (by omega) (by omega)) c'
        · by_cases ej : j = m
          · subst ej
            exact o.tr _ _ _ d' (er i (j - 1) (by omega) (by omega) (by omega) (by omega))
          · exact er i j (by omega) (by omega) (by omega) (by omega)
theorem sk_tail3 {p : Array Nat} (g : Gd n p) {Q : Nat × Array Nat → Shared → Prop} (N : Nat) (hN : N ≤ n) (hq : ∀ m p, Gd n p → SPk lt p m → 1 ≤ m → m ≤ N → Q (m, p) s) (m : Nat) (h1 : 1 ≤ m) (h2 : m ≤ N) (dp : DPk lt p m) : (kas_tail3 m N p).kasWp cmp Q s := by
  unfold kas_tail3
  rw [KasT.kasWp_bind]
  have sz := g.size
  exact sk_asc o hask h0 (g.rev _ _) N (fun m' sp a b _ => hq m' _ (g.rev _ _) sp a b) _ _ h1 (by omega) (dp.turn (by omega))
theorem sk_descPart {p : Array Nat} (g : Gd n p) {Q : Nat × Array Nat → Shared → Prop} (N : Nat) (hN : N ≤ n) (hq : ∀ m p, Gd n p → SPk lt p m → 1 ≤ m → m ≤ N → Q (m, p) s) (m : Nat) (h2 : m + 1 ≤ N) (dp : DPk lt p (m + 1)) : (kas_descPart m N p).kasWp cmp Q s := by
  unfold kas_descPart
  rw [KasT.kasWp_bind]
  refine sk_desc o hask h0 N hN (fun p' m' q g' a b c dp' er => ?_) _ _ _ _ g (by omega) (by omega) (by omega) dp fun i j hi hi' hj hj' => ?_
  · have sz := g'.size
    dsimp only
    split
    · exact sk_tail3 o hask h0 (g'.rev _ _) N hN hq _ a c (dp'.rev (by omega) (Nat.le_refl _) er)
    · exact sk_tail3 o hask h0 g' N hN hq _ a c dp'
  · have e1 : i = m := by omega
    have e2 : j = m := by omega
    subst e1 e2
    exact o.irr _
theorem sk_count {p : Array Nat} (g : Gd n p) {Q : Nat × Array Nat → Shared → Prop} (hq : ∀ m p, Gd n p → SPk lt p m → 1 ≤ m → m ≤ n → Q (m, p) s) : (kas_count n p).kasWp cmp Q s := by
  unfold kas_count
  rw [KasT.kasWp_bind]
  have sz := g.size
  refine sk_asc o hask h0 g n (fun m sp m1 mn st => ?_) _ _ (Nat.le_refl _) (by omega) (fun i j hij hj => by omega)
  split
  · exact hq _ _ g sp m1 mn
  · rename_i c
    have c' : m ≠ n := by simpa using c
    have lt1 := st (by omega)
    have ge1 := o.asym _ _ lt1
    split
    · refine hask _ _ _ (g.lt h0 _) (g.lt h0 _) ?_
      dsimp only
      split
      · exact hq _ _ g sp m1 mn
      · rename_i d
        have d' : lt (p.getD 0 0) (p.getD (m - 1) 0) = false := by simpa using d
        have lo : ∀ i, i < m → lt (p.getD (m - 1) 0) (p.getD i 0) = false := fun i hi => by
          by_cases e : i = m - 1
          · subst e; exact o.irr _
          · exact sp i (m - 1) (by omega) (by omega)
        have hi0 : ∀ j, j < m → lt (p.getD j 0) (p.getD 0 0) = false := fun j hj => by
          by_cases e : j = 0
          · subst e; exact o.irr _
          · exact sp 0 j (by omega) hj
        have er : ERk lt p 0 m := fun i j _ hi _ hj => o.tr _ _ _ (o.tr _ _ _ (lo j hj) d') (hi0 i hi)
        refine sk_descPart o hask h0 (g.rev _ _) n (Nat.le_refl _) hq m (by omega) fun i j hij hj => ?_
        rw [rev_at (by omega), rev_at (by omega)]
        by_cases ej : j = m
        · subst ej
          rw [if_pos (by omega), if_neg (by omega)]
          exact o.tr _ _ _ ge1 (er _ _ (by omega) (by omega) (by omega) (by omega))
        · rw [if_pos (by omega), if_pos (by omega)]
          exact er _ _ (by omega) (by omega) (by omega) (by omega)
    · have e : m = 1 := by omega
      subst e
      refine sk_descPart o hask h0 g n (Nat.le_refl _) hq 1 (by omega) fun i j hij hj => ?_
      have e1 : i = 0 := by omega
      have e2 : j = 1 := by omega
      subst e1 e2
      exact ge1
theorem sk_place {p : Array Nat} (g : Gd n p) {Q : Nat → Shared → Prop} (k : Nat) (sp : SPk lt p k) (hq : ∀ l, l ≤ k → (∀ i, i < l → lt (p.getD k 0) (p.getD i 0) = false) → (∀ i, l ≤ i → i < k → lt (p.getD i 0) (p.getD k 0) = false) → Q l s) :
    ∀ f l r, l ≤ r → r ≤ k → r - l ≤ f → (∀ i, i < l → lt (p.getD k 0) (p.getD i 0) = false) → (∀ i, r ≤ i → i < k → lt (p.getD i 0) (p.getD k 0) = false) → (kas_place p k f l r).kasWp cmp Q s
  | 0, l, r, h1, h2, h3, a, b => hq l (by omega) a fun i hi hk => b i (by omega) hk
  | f + 1, l, r, h1, h2, h3, a, b => by
    unfold kas_place
    split
    · exact hq l (by omega) a fun i hi hk => b i (by omega) hk
    · refine hask _ _ _ (g.lt h0 _) (g.lt h0 _) ?_
      dsimp only
      split
      · rename_i c
        have c' := o.asym _ _ c
        refine sk_place g k sp hq f l ((l + r) / 2) (by omega) (by omega) (by omega) a fun i hi hk => ?_
        by_cases e : i = (l + r) / 2
        · subst e; exact c'
        · exact o.tr _ _ _ c' (sp _ _ (by omega) hk)
      · rename_i c
        have c' : lt (p.getD k 0) (p.getD ((l + r) / 2) 0) = false := by simpa using c
        refine sk_place g k sp hq f ((l + r) / 2 + 1) r (by omega) h2 (by omega) (fun i hi => ?_) b
        by_cases e : i = (l + r) / 2
        · subst e; exact c'
        · exact o.tr _ _ _ (sp i ((l + r) / 2) (by omega) (by omega)) c'
theorem sk_bin {Q : Array Nat → Shared → Prop} (hq : ∀ p, Gd n p → SPk lt p n → Q p s) : ∀ f p k, Gd n p → k + f = n → SPk lt p k → (kas_bin f p k).kasWp cmp Q s
  | 0, p, k, g, h1, sp => hq p g (by rw [← h1]; exact sp)
  | f + 1, p, k, g, h1, sp => by
    unfold kas_bin
    rw [KasT.kasWp_bind]
    have sz := g.size
    refine sk_place o hask h0 g k sp (fun l hl a b => sk_bin hq f _ _ (g.bub _ _) (by omega) fun i j hij hj => ?_) k 0 k (by omega) (Nat.le_refl _) (by omega) (fun i hi => by omega) (fun i hi hk => by omega)
    rw [bub_at (by omega) hl, bub_at (by omega) hl]
    by_cases ej : j = l
    · rw [if_pos ej, if_neg (by omega), if_neg (by omega)]
      exact a i (by omega)
    · rw [if_neg ej]
      by_cases ej2 : l < j ∧ j ≤ k
      · rw [if_pos ej2]
        by_cases ei : i = l
        · rw [if_pos ei]
          exact b (j - 1) (by omega) (by omega)
        · rw [if_neg ei]
          split
          · exact sp _ _ (by omega) (by omega)
          · exact sp _ _ (by omega) (by omega)
      · rw [if_neg ej2, if_neg (by omega), if_neg (by omega)]
        exact sp _ _ hij (by omega)
theorem sk_sort {Q : Array Nat → Shared → Prop} (hq : ∀ p, Gd n p → SPk lt p n → Q p s) : (kas_sort n).kasWp cmp Q s := by
  unfold kas_sort
  rw [KasT.kasWp_bind]
  refine sk_count o hask h0 (Array.Perm.refl _) (fun m p g sp m1 mn => ?_)
  dsimp only
  have e : max m 1 = m := by omega
  rw [e]
  split
  · exact sk_bin o hask h0 hq _ _ _ g (by omega) sp
  · have e2 : m = n := by omega
    subst e2
    exact hq _ g sp
end
end L2
namespace L2
open PySem PySem.Spec PyProof.Rows PySem.W
theorem txTri : ∀ a b : List Nat, a < b ∨ a = b ∨ b < a
  | [], [] => .inr (.inl rfl)
  | [], _ :: _ => .inl (List.nil_lt_cons _ _)
  | _ :: _, [] => .inr (.inr (List.nil_lt_cons _ _))
  | x :: a, y :: b => by
    rcases Nat.lt_trichotomy x y with h | h | h
    · exact .inl (List.cons_lt_cons_iff.mpr (.inl h))
    · subst h
      rcases txTri a b with h | h | h
      · exact .inl (List.cons_lt_cons_iff.mpr (.inr ⟨rfl, h⟩))
      · exact .inr (.inl (by rw [h]))
      · exact .inr (.inr (List.cons_lt_cons_iff.mpr (.inr ⟨rfl, h⟩)))
    · exact .inr (.inr (List.cons_lt_cons_iff.mpr (.inl h)))
theorem txExt {x y : Str} (h : x.cps.toList = y.cps.toList) : x = y := by
  cases x; cases y
  simp only [Str.mk.injEq]
  exact Array.toList_inj.mp h
def sLtB (x y : Str) : Bool := decide (x.cps.toList < y.cps.toList)
theorem sLtB_irr (x : Str) : sLtB x x = false := decide_eq_false (List.lt_irrefl _)
theorem sLtB_trans {x y z : Str} (h : sLtB x y = true) (h' : sLtB y z = true) : sLtB x z = true := decide_eq_true (List.lt_trans (of_decide_eq_true h) (of_decide_eq_true h'))
theorem sLtB_tri (x y : Str) : sLtB x y = true ∨ x = y ∨ sLtB y x = true := by
  rcases txTri x.cps.toList y.cps.toList with h | h | h
  · exact .inl (decide_eq_true h)
  · exact .inr (.inl (txExt h))
  · exact .inr (.inr (decide_eq_true h))
def ltL : List Str → List Str → Bool
  | [], [] => false
  | [], _ :: _ => true
  | _ :: _, [] => false
  | x :: r, y :: t => if x = y then ltL r t else sLtB x y
theorem ltL_irr : ∀ a : List Str, ltL a a = false
  | [] => rfl
  | x :: r => by unfold ltL; rw [if_pos rfl]; exact ltL_irr r
theorem ltL_tri : ∀ a b : List Str, ltL a b = true ∨ a = b ∨ ltL b a = true
  | [], [] => .inr (.inl rfl)
  | [], _ :: _ => .inl rfl
  | _ :: _, [] => .inr (.inr rfl)
  | x :: r, y :: t => by
    unfold ltL
    by_cases e : x = y
    · subst e
      rw [if_pos rfl, if_pos rfl]
      rcases ltL_tri r t with h | h | h
      · exact .inl h
      · exact .inr (.inl (by rw [h]))
      · exact .inr (.inr h)
    · rw [if_neg e, if_neg (fun z => e z.symm)]
      rcases sLtB_tri x y with h | h | h
      · exact .inl h
      · exact absurd h e
      · exact .inr (.inr h)
theorem ltL_trans : ∀ a b c : List Str, ltL a b = true → ltL b c = true → ltL a c = true
  | [], _, [], h, h' => by
    rename_i b
    cases b with
    | nil => exact h
    | cons _ _ => cases h'
  | [], _, _ :: _, _, _ => rfl
  | _ :: _, [], _, h, _ => by cases h
  | _ :: _, _ :: _, [], _, h' => by cases h'
  | x :: r, y :: t, z :: u, h, h' => by
    unfold ltL at h h' ⊢
    by_cases e1 : x = y
    · subst e1
      rw [if_pos rfl] at h
      by_cases e2 : x = z
      · subst e2
        rw [if_pos rfl] at h' ⊢
        exact ltL_trans r t u h h'
      · rw [if_neg e2] at h' ⊢
        exact h'
    · rw [if_neg e1] at h
      by_cases e2 : y = z
      · subst e2
        rw [if_neg e1]
        exact h
      · rw [if_neg e2] at h'
        have q := sLtB_trans h h'
        have e3 : ¬ x = z := fun e => by rw [e, sLtB_irr] at q; cases q
        rw [if_neg e3]
        exact q
theorem ltL_asym (a b : List Str) (h : ltL a b = true) : ltL b a = false := by
  cases q : ltL b a with
  | false => rfl
  | true => have := ltL_trans a b a h q; rw [ltL_irr] at this; cases this
def ltI (ts : List (List Str)) (i j : Nat) : Bool := ltL (ts.getD i []) (ts.getD j [])
theorem ltI_ord (ts : List (List Str)) : Ordr (ltI ts) := ⟨fun a b h => ltL_asym _ _ h, fun a b c h h' => by
  have h1 : ltL (ts.getD b []) (ts.getD a []) = false := h
  have h2 : ltL (ts.getD c []) (ts.getD b []) = false := h'
  show ltL (ts.getD c []) (ts.getD a []) = false
  rcases ltL_tri (ts.getD a []) (ts.getD b []) with q | q | q
  · rcases ltL_tri (ts.getD b []) (ts.getD c []) with r | r | r
    · exact ltL_asym _ _ (ltL_trans _ _ _ q r)
    · rw [← r]; exact h1
    · rw [h2] at r; cases r
  · rw [q]; exact h2
  · rw [h1] at q; cases q⟩
theorem getD_range (vs : List Value) : (List.range vs.length).map (fun i => vs.getD i Value.none) = vs := by
  refine List.ext_getElem? fun i => ?_
  by_cases hi : i < vs.length
  · rw [List.getElem?_map, List.getElem?_range hi, List.getElem?_eq_getElem hi]
    show some (vs.getD i Value.none) = _
    rw [List.getD_eq_getElem?_getD, List.getElem?_eq_getElem hi]; rfl
  · rw [List.getElem?_eq_none (by simp; omega), List.getElem?_eq_none (by omega)]
theorem katlex_ex {P : Program} {w : World} {A : Around} {s : Shared} {b fin : Bool} {Q : Bool → Shared → Prop} : ∀ {vs us : List Value} {x y : List Str} (i : Nat), StrsAre vs x → StrsAre us y → Q (ltL x y) s → fin = decide (x.length < y.length) → KatLex P w A b fin Q (vs.zip us) i s
  | _, _, _, _, i, .nil, .nil, hQ, hf => by rw [hf]; exact hQ
  | _, _, _, _, i, .nil, .cons _ _ _, hQ, hf => by rw [hf]; exact hQ
  | _, _, _, _, i, .cons _ _ _, .nil, hQ, hf => by rw [hf]; exact hQ
  | _, _, _, _, i, .cons p t r, .cons q u r', hQ, hf => by
    refine kat_cons (wpAny_eqBool_str (kat_go (fun e => kat_yes (katlex_ex (i + 1) r r' ?_ ?_)) fun e => kat_no ?_))
    · have e' := of_decide_eq_true e
      unfold ltL at hQ
      rw [if_pos e'] at hQ
      exact hQ
    · rw [hf]
      simp
    · have e' := of_decide_eq_false e
      unfold ltL at hQ
      rw [if_neg e'] at hQ
      cases hb : (b && i == 0) with
      | true => exact strKind_oneLt P w A _ s _ _ _ _ rfl rfl hQ
      | false => exact kat_one _ _ (lt_str hQ)
section
variable {P : Program} {w : World} {A : Around} {E : Value → Shared → Prop} {s : Shared}
theorem tups_atO {h h' : Heap} {a : Addr} (k : ∀ b o, b ≠ a → h.get? b = some o → h'.get? b = some o) : ∀ {vs : List Value} {ts : List (List Str)} {i : Nat}, Paired (TupS h) vs ts → (∀ v ∈ vs, v ≠ .ref a) → i < vs.length → ∃ (b : Addr) (its : Array Value), IsTup h' b its ∧ vs.getD i Value.none = .ref b ∧ StrsAre its.toList (ts.getD i [])
  | _, _, i, .nil, _, hi => absurd hi (Nat.not_lt_zero _)
  | _, _, 0, @Paired.cons _ _ _ v t l1 l2 hh tt, hn, _ => by
    obtain ⟨b, its, rfl, ⟨o, g, c, n, d⟩, st, ne⟩ := hh
    have nb : b ≠ a := fun z => hn _ List.mem_cons_self (by rw [z])
    exact ⟨b, its, ⟨o, k b o nb g, c, n, d⟩, rfl, st⟩
  | _, _, i + 1, @Paired.cons _ _ _ v t l1 l2 hh tt, hn, hi => tups_atO (i := i) k tt (fun u hu => hn u (List.mem_cons_of_mem _ hu)) (by simpa using hi)
theorem sort_tupsO {a : Addr} {vs : List Value} {ts : List (List Str)} {n : Nat} {R : PySem.Fin → Shared → Prop} (ho : s.heap.get? a = some (seqObj "list" vs.toArray n)) (ht : Paired (TupS s.heap) vs ts) (h64 : vs.length < 64) (hna : ∀ v ∈ vs, v ≠ .ref a)
    (h : ∀ (out : List Value) (p : Array Nat), out.Perm vs → Gd vs.length p → SPk (ltI ts) p vs.length → out = p.toList.map (fun i => vs.getD i Value.none) → R (.done (.ret .none)) { s with heap := sortedHeap s.heap a vs out.toArray }) : wpAny (model P w) A (Builtin.«list.sort» ⟨[.ref a], []⟩) R E s := by
  rw [list_sort_plain]
  have ha : a < s.heap.objs.size := Heap.lt_size ho
  refine wpAny_bind (listItems_at ho rfl (wpAny_bind (listUpdate_at ho rfl ?_ (by rw [List.size_toArray, sizeLine_eq]; omega) (Nat.zero_le _))))
  obtain ⟨e1, ho1⟩ : ∃ e1, (s.heap.update a (Obj.mapSeq fun _ => #[])).get? a = some (seqObj "list" #[] e1) := ⟨_, get?_update_seq ho (fun _ => #[])⟩
  refine wpAny_bind (seqEpoch_at ho1 rfl (wpAny_bind (wpAny_newTuple ?_ (by show vs.length ≤ _; rw [sizeLine_eq]; omega))))
  refine wpAny_bind (wpAny_newList ?_ (Nat.zero_le _))
  refine wpAny_holding ?_
  have ho6 : (((s.heap.update a (Obj.mapSeq fun _ => #[])).push (seqObj "tuple" vs.toArray 0)).push (seqObj "list" #[] 0)).get? a = some (seqObj "list" #[] e1) := Heap.get?_push_of_some _ (Heap.get?_push_of_some _ ho1)
  have keep : ∀ b o, b ≠ a → s.heap.get? b = some o → (((s.heap.update a (Obj.mapSeq fun _ => #[])).push (seqObj "tuple" vs.toArray 0)).push (seqObj "list" #[] 0)).get? b = some o := fun b o hb e => by
    refine Heap.get?_push_of_some _ (Heap.get?_push_of_some _ ?_)
    rw [Heap.get?_update_ne _ _ _ _ hb]; exact e
  show wpAny (model P w) A _ R E { s with heap := ((s.heap.update a (Obj.mapSeq fun _ => #[])).push (seqObj "tuple" vs.toArray 0)).push (seqObj "list" #[] 0) }
  dsimp only
  have fin : ∀ (st' : SortSt) (out : List Value), (arrOf st').map (·.2) = out.toArray → failedOf st' = none → out.Perm vs → (∃ p, Gd vs.length p ∧ SPk (ltI ts) p vs.length ∧ out = p.toList.map (fun i => vs.getD i Value.none)) → wpAny (model P w) A (do
      let touched := (← seqEpoch a) != e1
      Builtin.List.listUpdate (.ref a) fun _ => (arrOf st').map (·.2)
      if let some e := failedOf st' then rule "list.sort.comparison-raised"; throw e
      if touched then rule "list.sort.modified"; raiseError "ValueError" "list modified during sort"
      ret .none) R E { s with heap := ((s.heap.update a (Obj.mapSeq fun _ => #[])).push (seqObj "tuple" vs.toArray 0)).push (seqObj "list" #[] 0) } := by
    intro st' out e hf hp ⟨p, hg, hsp, ep⟩
    refine wpAny_bind (seqEpoch_at ho6 rfl ?_)
    refine wpAny_bind (listUpdate_at ho6 rfl ?_ (Nat.zero_le _) (by rw [e, List.size_toArray, hp.length_eq, sizeLine_eq]; omega))
    rw [hf]
    simp only [bne_self_eq_false, Bool.false_eq_true, if_false]
    rw [e]
    exact wpAny_pure (h out p hp hg hsp ep)
  by_cases h2 : vs.toArray.size < 2
  · rw [if_pos h2, if_pos h2]
    refine wpAny_bind (wpAny_pure ?_)
    rw [StateT.run_pure]
    refine wpAny_bind (wpAny_pure (fin _ vs ?_ rfl (List.Perm.refl _) ⟨Rng vs.length, Array.Perm.refl _, fun i j hij hj => absurd hj (by rw [List.size_toArray] at h2; omega), (getD_range vs).symm⟩))
    show (vs.toArray.zip vs.toArray).map (·.2) = vs.toArray
    apply Array.toList_inj.mp
    rw [Array.toList_map, Array.toList_zip]
    exact List.map_snd_zip (Nat.le_refl _)
  · rw [if_neg h2, if_neg h2]
    have hl2 : 2 ≤ vs.length := by rw [List.size_toArray] at h2; omega
    obtain ⟨fs, kt, fl, fa⟩ := tups_firsts (a := a) keep ht hna
    refine wpAny_bind (kat_kind (T := .type "str") kt (by omega) (fun v hv => ?_) (by decide) ?_)
    · obtain ⟨x, t, rfl⟩ := fa v hv
      exact .now
    refine wpAny_bind (wpAny_mono (kat_run (ks := vs) (Q := fun st' s' => s' = { s with heap := ((s.heap.update a (Obj.mapSeq fun _ => #[])).push (seqObj "tuple" vs.toArray 0)).push (seqObj "list" #[] 0) } ∧ ∃ out : List Value, (arrOf st').map (·.2) = out.toArray ∧ failedOf st' = none ∧ out.Perm vs ∧ ∃ p, Gd vs.length p ∧ SPk (ltI ts) p vs.length ∧ out = p.toList.map (fun i => vs.getD i Value.none)) (G := fun p s' => s' = { s with heap := ((s.heap.update a (Obj.mapSeq fun _ => #[])).push (seqObj "tuple" vs.toArray 0)).push (seqObj "list" #[] 0) } ∧ Gd vs.length p ∧ SPk (ltI ts) p vs.length) rfl hl2 h64 (fun p st' s' a1 a2 a3 a4 => ?_) ?_) ?_ fun _ _ e => e)
    · obtain ⟨rfl, g, sp⟩ := a4
      refine ⟨rfl, _, kat_snds rfl a2, a3, ?_, p, g, sp, rfl⟩
      have q := (Array.perm_iff_toList_perm.mp g).map fun i => vs.getD i Value.none
      exact q.trans (List.Perm.of_eq (getD_range vs))
    · refine sk_sort (ltI_ord ts) (fun i j C hi hj hC => ?_) (by omega) fun p g sp => ⟨rfl, g, sp⟩
      obtain ⟨x1, y1, z1, v1, w1⟩ := tups_atO keep ht hna hi
      obtain ⟨x2, y2, z2, v2, w2⟩ := tups_atO keep ht hna hj
      show wpAny _ _ (keyLt' _ (vs.getD i Value.none) (vs.getD j Value.none)) C _ _
      rw [v1, v2]
      obtain ⟨o1, g1, c1, n1, d1⟩ := z1
      obtain ⟨o2, g2, c2, n2, d2⟩ := z2
      have l1 : y1.size = (ts.getD i []).length := by rw [← w1.strs]; simp
      have l2 : y2.size = (ts.getD j []).length := by rw [← w2.strs]; simp
      exact kat_lt g1 d1 g2 d2 (katlex_ex 0 w1 w2 hC (by rw [l1, l2]))
    · rintro ⟨⟨⟩, st'⟩ s' ⟨rfl, out, q1, q2, q3, q4⟩
      exact fin st' out q1 q2 q3 q4
end
end L2
namespace L2
open PySem PySem.Spec PyProof.Rows PySem.W
theorem gd_mem {n : Nat} {o : Array Nat} (g : Gd n o) {i : Nat} (hi : i ∈ o.toList) : i < n := by
  have := (Array.perm_iff_toList_perm.mp g).mem_iff.mp hi
  simpa using this
theorem gd_len {n : Nat} {o : Array Nat} (g : Gd n o) : o.toList.length = n := by
  have := g.size
  simpa using this
theorem outs_refs {as : List Addr} {l : List Nat} (h : ∀ i ∈ l, i < as.length) : l.map (fun i => (as.map Value.ref).getD i Value.none) = (l.map fun i => as.getD i 0).map Value.ref := by
  rw [List.map_map]
  refine List.map_congr_left fun i hi => ?_
  have := h i hi
  show (as.map Value.ref).getD i Value.none = Value.ref (as.getD i 0)
  rw [List.getD_eq_getElem?_getD, List.getD_eq_getElem?_getD, List.getElem?_map, List.getElem?_eq_getElem this]; rfl
section
variable {X : Cx}
theorem call_sortedTO : CallR X (.builtin "sorted") (fun xs H Q => ∃ (p : Addr) (as : List Addr) (ts : List (List Str)), xs = [.ref p] ∧ SqL X.K H p (as.map V.ref) ∧ Paired (fun a t => SqT X.K H a (t.map V.str) ∧ t ≠ []) as ts ∧ as.length < 64 ∧ ∀ (r : Addr) (o : Array Nat), H r = none → Gd as.length o → SPk (ltI ts) o as.length → Q (.ref r) (upd H r (.lst ((o.toList.map fun i => as.getD i 0).map V.ref)))) := by
  intro pins s σ H xs us Q I r h
  obtain ⟨p, as, ts, rfl, hq, ht, h64, q⟩ := h
  obtain ⟨u, rfl, rx⟩ := vals1 r
  cases rx
  obtain ⟨its, rv, pl, hz⟩ := I.list hq
  have ei := refs_of rv
  subst ei
  refine Calls.call_function_entry kind_sorted plain_sorted entry_sorted (args_sorted1 _) ?_
  unfold Builtin.«sorted»
  refine wpAny_bind (m := checkCount "sorted" 1 1 _) (wpAny_pure (wpAny_bind (collect_list pl.isList ?_ (by rw [List.length_map, sizeLine_eq]; omega))))
  refine wpAny_bind (wpAny_newList ?_ (by rw [List.length_map, sizeLine_eq]; omega))
  have hsz : ((s.heap.push (seqObj "list" #[] 0)).update s.heap.objs.size (Obj.mapSeq (· ++ (as.map Value.ref).toArray))).objs.size = s.heap.objs.size + 1 := by rw [Heap.size_update, size_push']
  have hoL : (((s.heap.push (seqObj "list" #[] 0)).update s.heap.objs.size (Obj.mapSeq (· ++ (as.map Value.ref).toArray))).push (seqObj "list" (as.map Value.ref).toArray 0)).get? (s.heap.objs.size + 1) = some (seqObj "list" (as.map Value.ref).toArray 0) := by
    rw [← hsz]; exact Heap.get?_push_size _ rfl
  have keep : ∀ b o, s.heap.get? b = some o → (((s.heap.push (seqObj "list" #[] 0)).update s.heap.objs.size (Obj.mapSeq (· ++ (as.map Value.ref).toArray))).push (seqObj "list" (as.map Value.ref).toArray 0)).get? b = some o := fun b o e => by
    have hlt : b < s.heap.objs.size := Heap.lt_size e
    rw [Heap.get?_push_ne _ _ _ (by rw [hsz]; exact Nat.ne_of_lt (Nat.lt_succ_of_lt hlt)), Heap.get?_update_ne _ _ _ _ (Nat.ne_of_lt hlt), Heap.get?_push_ne _ _ _ (Nat.ne_of_lt hlt)]
    exact e
  show wpAny _ _ _ _ _ { s with heap := ((s.heap.push (seqObj "list" #[] 0)).update s.heap.objs.size (Obj.mapSeq (· ++ (as.map Value.ref).toArray))).push (seqObj "list" (as.map Value.ref).toArray 0) }
  rw [hsz]
  have tp := tups_mk (h' := ((s.heap.push (seqObj "list" #[] 0)).update s.heap.objs.size (Obj.mapSeq (· ++ (as.map Value.ref).toArray))).push (seqObj "list" (as.map Value.ref).toArray 0)) I keep ht
  refine wpAny_bind (wpAny_holding (wpAny_call_entry slot_list_sort ⟨_, hoL, rfl⟩ entry_list_sort (sort_tupsO hoL tp (by rw [List.length_map]; exact h64) (fun v hv z => ?_) fun out o hp hg hsp eo => ⟨_, rfl, ?_⟩) (args_list_sort _)))
  · obtain ⟨b, hb, e⟩ := List.mem_map.mp hv
    rw [← e] at z
    injection z with z
    have lt := tups_lt I ht b hb
    exact absurd lt (by rw [z]; exact Nat.not_lt_of_le (Nat.le_succ _))
  rw [List.length_map] at hg hsp
  rw [outs_refs fun i hi => gd_mem hg hi] at eo
  subst eo
  have nz : H (s.heap.objs.size + 1) = none := I.hok.fresh (Nat.le_succ _)
  obtain ⟨e, he⟩ := sortedAll_at s.heap (as.map Value.ref) ((o.toList.map fun i => as.getD i 0).map Value.ref).toArray
  refine wpAny_pure ⟨_, rfl, .ref (s.heap.objs.size + 1), _, I.laid (t' := s.toks) (a := s.heap.objs.size + 1) (o := .lst ((o.toList.map fun i => as.getD i 0).map V.ref)) (h' := sortedAll s.heap (as.map Value.ref) ((o.toList.map fun i => as.getD i 0).map Value.ref).toArray) (fun b o eb => sortedAll_old eb) (Nat.le_succ _) ⟨?_, (o.toList.map fun i => as.getD i 0).map Value.ref, e, vals_refs _, he⟩, rfl, q _ o nz hg hsp⟩
  rw [List.length_map, List.length_map, gd_len hg]
  exact Nat.le_of_lt (small1000 (by omega))
end
end L2
namespace L2
open PySem PySem.Spec PyProof.Rows PySem.W
open AutoSeq1 (wpAny_loadPart')
open MeetsSeq MeetsSeq2 MeetsSeq3 SeqRoads2
theorem strs_at {vs : List Value} {x : List Str} (h : StrsAre vs x) : ∀ {i : Nat}, i < vs.length → ∃ t, vs[i]? = some (.str (x.getD i "") t) := by
  induction h with
  | nil => intro i hi; exact absurd hi (Nat.not_lt_zero _)
  | cons p t r ih =>
    intro i hi
    cases i with
    | zero => exact ⟨t, rfl⟩
    | succ i => simpa using ih (i := i) (by simpa using hi)
theorem drop_at {x : List Str} {i : Nat} (h : i < x.length) : x.drop i = x.getD i "" :: x.drop (i + 1) := by
  rw [List.drop_eq_getElem_cons h, List.getD_eq_getElem?_getD, List.getElem?_eq_getElem h]; rfl
theorem lt_loopS (l b : Addr) (items items2 : Array Value) (n n2 : Nat) (dd dd2 : Option Addr) (sl sl2 : Array (Option Value)) (x y : List Str) (hx : StrsAre items.toList x) (hy : StrsAre items2.toList y) : ∀ (k i : Nat), items.size - i = k → i ≤ items.size → i ≤ items2.size →
    Meets (Builtin.«list.__eq__.loop» ⟨[.ref l, .ref b, rawInt i, rawInt 0], []⟩)
      (fun A R s => (s.heap.get? l = some { cls := .type "list", dict := dd, data := .seq items n, slots := sl } ∧ s.heap.get? b = some { cls := .type "list", dict := dd2, data := .seq items2 n2, slots := sl2 }) ∧ R (.ok (.ret (.bool (ltL (x.drop i) (y.drop i))))) s) := by
  have lx : items.size = x.length := by rw [← hx.strs]; simp
  have ly : items2.size = y.length := by rw [← hy.strs]; simp
  intro k
  induction k with
  | zero =>
    intro i hk h1 h2 prog w A R s h
    obtain ⟨hp, g, d, tk, os⟩ := s
    obtain ⟨⟨hl, hb⟩, h⟩ := h
    have e1 : i = items.size := by omega
    have q1 : items[((i : Nat) : Int).toNat]? = none := by simp; omega
    wp_walk using wpAny_loadPart' hl, wpAny_loadPart' hb
    rw [q1]
    wp_walk using wpAny_loadPart' hl, wpAny_loadPart' hb
    have dx : x.drop i = [] := by simp; omega
    rw [dx] at h
    show R (.ok (.ret (.bool (decide (items.size < items2.size))))) _
    cases hd : y.drop i with
    | nil =>
      rw [hd] at h
      have : y.length ≤ i := by simpa using hd
      rw [decide_eq_false (by omega)]
      exact h
    | cons a r =>
      rw [hd] at h
      have : i < y.length := by
        have := congrArg List.length hd
        rw [List.length_drop, List.length_cons] at this
        omega
      rw [decide_eq_true (by omega)]
      exact h
  | succ k ih =>
    intro i hk h1 h2 prog w A R s h
    obtain ⟨hp, g, d, tk, os⟩ := s
    obtain ⟨⟨hl, hb⟩, h⟩ := h
    have hlt : i < items.size := by omega
    obtain ⟨t1, q1⟩ := strs_at hx (i := i) (by simpa using hlt)
    rw [Array.getElem?_toList] at q1
    have q1' : items[((i : Nat) : Int).toNat]? = some (.str (x.getD i "") t1) := q1
    have dx := drop_at (x := x) (i := i) (by omega)
    wp_walk using wpAny_loadPart' hl, wpAny_loadPart' hb
    rw [q1']
    by_cases hlt2 : i < items2.size
    · obtain ⟨t2, q2⟩ := strs_at hy (i := i) (by simpa using hlt2)
      rw [Array.getElem?_toList] at q2
      have q2' : items2[((i : Nat) : Int).toNat]? = some (.str (y.getD i "") t2) := q2
      have dy := drop_at (x := y) (i := i) (by omega)
      have hc : ((i : Int) + 1) = ((i + 1 : Nat) : Int) := by push_cast; rfl
      rw [dx, dy] at h
      unfold ltL at h
      rw [q2']
      refine wpAny_bind (wpAny_eqBool_str ?_)
      by_cases e : x.getD i "" = y.getD i ""
      · rw [if_pos e] at h
        rw [decide_eq_true e]
        wp_walk
        rw [hc]
        exact ⟨plainId_quiet plain_eq_loop _, codeAny_builtin entry_eq_loop (by
          rw [Around.under_plainId plain_eq_loop _]
          exact ih (i + 1) (by omega) (by omega) (by omega) prog w A R _ ⟨⟨hl, hb⟩, h⟩)⟩
      · rw [if_neg e] at h
        rw [decide_eq_false e]
        wp_walk using wpAny_loadPart' hl, wpAny_loadPart' hb
        rw [q1', q2']
        refine wpAny_bind (richCompare_gives (op := .Lt) (typeIs_str _ _ _) (typeIs_str _ _ _) F.slot_str_lt F.entry_str_lt (F.args_str_lt_2 _ _) (gives_str_lt _ _ _ _) (fun e => nomatch e) ?_)
        exact wpAny_pure h
    · have q2' : items2[((i : Nat) : Int).toNat]? = none := by simp; omega
      rw [q2']
      wp_walk using wpAny_loadPart' hl, wpAny_loadPart' hb
      have dy : y.drop i = [] := by simp; omega
      rw [dx, dy] at h
      show R (.ok (.ret (.bool (decide (items.size < items2.size))))) _
      rw [decide_eq_false (by omega)]
      exact h
theorem list_ltS (l b : Addr) (items items2 : Array Value) (n n2 : Nat) (dd dd2 : Option Addr) (sl sl2 : Array (Option Value)) (x y : List Str) (hx : StrsAre items.toList x) (hy : StrsAre items2.toList y) :
    Meets (Builtin.«list.__lt__» ⟨[.ref l, .ref b], []⟩)
      (fun A R s => (s.heap.get? l = some { cls := .type "list", dict := dd, data := .seq items n, slots := sl } ∧ s.heap.get? b = some { cls := .type "list", dict := dd2, data := .seq items2 n2, slots := sl2 }) ∧ R (.ok (.ret (.bool (ltL x y)))) s) := by
  intro prog w A R s h
  obtain ⟨hp, g, d, tk, os⟩ := s
  obtain ⟨⟨hl, hb⟩, h⟩ := h
  have f3 := AutoSeq1.sub_list_list
  wp_walk using wpAny_loadPart' hl, wpAny_loadPart' hb
  exact ⟨plainId_quiet plain_eq_loop _, codeAny_builtin entry_eq_loop (by
    rw [Around.under_plainId plain_eq_loop _]
    exact lt_loopS l b items items2 n n2 dd dd2 sl sl2 x y hx hy _ 0 rfl (Nat.zero_le _) (Nat.zero_le _) prog w A R _ ⟨⟨hl, hb⟩, h⟩)⟩
end L2
namespace L2
open PySem PySem.Spec PyProof.Rows PySem.W
section
variable {P : Program} {w : World} {A : Around} {E : Value → Shared → Prop} {s : Shared}
end
section
variable {X : Cx}
end
end L2
namespace L2
open PySem PySem.Spec PyProof.Rows
section
variable {P : Program} {w : World} {target iter target2 iter2 elt : Expr} {ifs ifs2 : List Expr} {scope : Scope} {pos : Pos}
end
end L2
namespace L2
open PySem PySem.Spec PyProof.Rows PySem.W
abbrev Srt (a : List (List Str)) : Prop := a.Pairwise fun x y => ltL y x = false
theorem getD_rangeL (ts : List (List Str)) : (List.range ts.length).map (fun i => ts.getD i []) = ts := by
  refine List.ext_getElem? fun i => ?_
  by_cases hi : i < ts.length
  · rw [List.getElem?_map, List.getElem?_range hi, List.getElem?_eq_getElem hi]
    show some (ts.getD i []) = _
    rw [List.getD_eq_getElem?_getD, List.getElem?_eq_getElem hi]; rfl
  · rw [List.getElem?_eq_none (by simp; omega), List.getElem?_eq_none (by omega)]
theorem order_rows {ts : List (List Str)} {o : Array Nat} (g : Gd ts.length o) (sp : SPk (ltI ts) o ts.length) : Srt (o.toList.map fun i => ts.getD i []) ∧ (o.toList.map fun i => ts.getD i []).Perm ts := by
  have sz := g.size
  refine ⟨?_, ?_⟩
  · rw [Srt, List.pairwise_iff_getElem]
    intro i j hi hj hij
    rw [List.length_map] at hi hj
    have h := sp i j hij (by simpa [sz] using hj)
    rw [List.getElem_map, List.getElem_map]
    have e : ∀ k (hk : k < o.toList.length), o.getD k 0 = o.toList[k] := fun k hk => by
      have hk' : k < o.size := by simpa using hk
      simp [Array.getD, hk']
    rw [e i hi, e j hj] at h
    exact h
  · have q := (Array.perm_iff_toList_perm.mp g).map fun i => ts.getD i []
    exact q.trans (List.Perm.of_eq (getD_rangeL ts))
end L2
namespace L2
open PySem PySem.Spec PyProof.Rows
section
variable {X : Cx}
theorem ints_of {ns : List Int} : ∀ {us : List Value}, Vals (ns.map V.int) us → ∃ xs : List (Int × Tok), us = xs.map (fun p => Value.int p.1 p.2) ∧ xs.map (·.1) = ns := by
  induction ns with
  | nil => intro us r; cases r; exact ⟨[], rfl, rfl⟩
  | cons a l ih =>
    intro us r
    cases r with
    | cons r rr =>
      obtain ⟨t, rfl⟩ := r
      obtain ⟨xs, rfl, rfl⟩ := ih rr
      exact ⟨(a, t) :: xs, rfl, rfl⟩
theorem call_sumI (hc : X.calm = true) : CallR X (.builtin "sum") (fun xs H Q => ∃ (p : Addr) (ns : List Int), xs = [.ref p] ∧ SqL X.K H p (ns.map V.int) ∧ Q (.int ns.sum) H) := by
  intro pins s σ H xs us Q I r h
  obtain ⟨p, ns, rfl, hq, q⟩ := h
  obtain ⟨u, rfl, rx⟩ := vals1 r
  cases rx
  obtain ⟨its, rv, pl, hz⟩ := I.list hq
  obtain ⟨ys, rfl, rfl⟩ := ints_of rv
  have e : (ys.map (fun p => Value.int p.1 p.2)).toArray = intItems ys.toArray := by unfold intItems; simp
  have pl' := pl.isList
  rw [e] at pl'
  refine sum_intListG (I.ok.hd hc) pl' fun h' tk t' hk => ⟨.int _, H, I.kept (t' := tk) hk, ⟨t', rfl⟩, ?_⟩
  rw [preSum_eq, List.take_of_length_le (by simp)]
  exact q
theorem intsAre_ofV {ns : List Int} : ∀ {us : List Value}, Vals (ns.map V.int) us → IntsAre us ns := by
  induction ns with
  | nil => intro us r; cases r; exact .nil
  | cons a l ih =>
    intro us r
    cases r with
    | cons r rr =>
      obtain ⟨t, rfl⟩ := r
      exact .cons a t (ih rr)
theorem of_intsAre {ns : List Int} : ∀ {us : List Value}, IntsAre us ns → Vals (ns.map V.int) us := by
  induction ns with
  | nil => intro us r; cases r; exact .nil
  | cons a l ih =>
    intro us r
    cases r with
    | cons _ _ r => exact .cons ⟨_, rfl⟩ (ih r)
def tSortRev (K : PySem.W.Frag) (t : TA) : TE := fun σ H Q => t σ H fun vs H1 => ∃ (p : Addr) (ns : List Int), vs = [.ref p] ∧ SqL K H1 p (ns.map V.int) ∧ ns.length < 64 ∧ ∀ (r : Addr) (ns' : List Int), H1 r = none → ns'.Perm ns → Ordered true ns' → Q (.ref r) (upd H1 r (.lst (ns'.map V.int)))
theorem pe_sortRev {e : Expr} {t : TA} {p pos kp cp : Pos} {j : Nat} (hg : Gl X "sorted") (hm : X.mg "sorted" = none) (ha : PA X [e] t)
    (he : backTo pos (starEach [e] X.env) = (false, eval e X.env) :: backTo pos (starEach [] X.env) := by rfl)
    (hplain : (backTo pos (starEach [e] X.env)).any (·.1) = false := by rfl) : PE X (.Call (.Name "sorted" p) [e] [⟨some "reverse", .Constant (.bool true) j cp, kp⟩] pos) (tSortRev X.K t) := by
  intro pins s σ H Q I h
  refine wpAny_Call_Name_kw (ld_blt I hg hm (by decide +kernel : bootBuiltins "sorted" = some (.builtin "sorted")) ?_ (by decide) (by decide))
  refine PyProof.Rows.callWith_kw (thn (ha pos pins s σ H _ I h) fun us s1 ⟨vs, H1, I1, r1, q1⟩ => ?_) he hplain
  obtain ⟨a, ns, rfl, hq, h64, q⟩ := q1
  obtain ⟨u, rfl, rx⟩ := vals1 r1
  cases rx
  refine PyProof.Rows.kws_cons (Constant_bool (PyProof.Rows.kws_nil ?_))
  obtain ⟨its, rv, pl, hz⟩ := I1.list hq
  have hl := rv.length
  rw [List.length_map] at hl
  refine sorted_ints_rev (b := true) pl.isList (intsAre_ofV rv) (by omega) fun out ns' h1 h2 h3 => ?_
  obtain ⟨e, he⟩ := sortedAll_at s1.heap its out
  have nz : H1 (s1.heap.objs.size + 1) = none := I1.hok.fresh (Nat.le_succ _)
  refine ⟨.ref (s1.heap.objs.size + 1), _, I1.laid (t' := s1.toks) (a := s1.heap.objs.size + 1) (o := .lst (ns'.map V.int)) (fun b o eb => sortedAll_old eb) (Nat.le_succ _) ?_, rfl, q _ ns' nz h2 h3⟩
  refine ⟨?_, out.toList, e, of_intsAre h1, by simpa using he⟩
  rw [List.length_map, h2.length_eq]
  exact Nat.le_of_lt (small1000 (by omega))
def rBits : V → List V → Hp → VK → Prop := fun x vs H Q => ∃ i : Int, x = .int i ∧ vs = [] ∧ Q (.int (Builtin.Int.intBits i : Nat)) H
theorem mt_bits : MtR X "int.bit_length" rBits := by
  intro pins s σ H x vs v us Q I rx rv h
  obtain ⟨i, rfl, rfl, q⟩ := h
  obtain ⟨t, rfl⟩ := rx
  have hus := rv.zero
  subst hus
  exact call_int_bit_length ⟨.int _, H, I.tok _, ⟨_, rfl⟩, q⟩
end
end L2
namespace L2
open PySem PySem.Spec PyProof.Rows
section
variable {X : Cx}
def iEnum (K : PySem.W.Frag) (ta : TA) : TI := fun σ H R => ta σ H fun vs H1 => ∃ (a : Addr) (xs : List V), vs = [.ref a] ∧ SqL K H1 a xs ∧ R (Itp xs.length (fun H => SqL K H a xs) (fun i => [.int (i : Nat), xs.getD i .non])) H1
theorem boot_enum : bootBuiltins "enumerate" = some (.type "enumerate") := by decide +kernel
theorem pi_enum {a : Expr} {ta : TA} {p pos tpos : Pos} {elts : List Expr} {ct : Nat} (hg : Gl X "enumerate") (hm : X.mg "enumerate" = none) (ha : PA X [a] ta) (hs : starEach [a] X.env = [(false, eval a X.env)] := by rfl) :
    PI X (.Tuple elts ct tpos) (.Call (.Name "enumerate" p) [a] [] pos) (iEnum X.K ta) := by
  intro pins s σ H R I h
  refine Call_ (ld_blt I hg hm boot_enum (PyProof.Rows.callWith_type1 (thn (ha pos pins s σ H _ I h) fun us s1 ⟨vs, H1, I1, r1, q1⟩ => ?_) (by rw [hs]; rfl) (by rfl)))
  obtain ⟨l, xs, e, hx, q⟩ := q1
  subst e
  obtain ⟨u, rfl, rx⟩ := vals1 r1
  cases rx
  obtain ⟨it1, rv1, pl1, hz1⟩ := I1.list hx
  have b1 : l < s1.heap.objs.size := by obtain ⟨o, n, e, _⟩ := pl1; exact Heap.lt_size e
  refine call_enumerate_list pl1.isList fun h1 z1 z2 z3 z7 => ?_
  refine wpAny_pyIter_enum z1 ?_
  have hfp : ∀ b ∈ [s1.heap.objs.size + 1, s1.heap.objs.size], s1.heap.objs.size ≤ b := fun b hb => by
    simp only [List.mem_cons, List.not_mem_nil, or_false] at hb
    rcases hb with rfl | rfl
    · exact Nat.le_add_right _ _
    · exact Nat.le_refl _
  refine ⟨s1.heap.objs.size + 1, [s1.heap.objs.size + 1, s1.heap.objs.size],
    fun i h => (∃ old, IsEnum h (s1.heap.objs.size + 1) s1.heap.objs.size i old) ∧ h.IsListIter s1.heap.objs.size l i,
    _, H1, rfl, I1.kept (t' := s1.toks) z7,
    turn_walkT (s1.heap.objs.size + 1) _ [s1.heap.objs.size + 1, s1.heap.objs.size, l] [s1.heap.objs.size + 1, s1.heap.objs.size] _ _ _ _ (by simp) (fun b hb => hb) (fun i h st b hb => ?_) (fun i h h' st k => ?_) (fun i => by show 2 ≤ sizeLine; decide) ?_ (fun A i s' Q E st hQ => by
      obtain ⟨⟨old, he⟩, _⟩ := st
      exact wpAny_pyIter_enum he hQ),
    ⟨⟨_, z1⟩, z2⟩, fun b hb => I1.fpOk (hfp b hb) (I1.hok.fresh (hfp b hb)), q⟩
  · obtain ⟨⟨old, a1⟩, ⟨o4, a4, c4, d4⟩⟩ := st
    simp only [List.mem_cons, List.not_mem_nil, or_false] at hb
    rcases hb with rfl | rfl
    · exact ⟨_, a1, fun v z => by cases z⟩
    · exact ⟨_, a4, fun v z => by rw [d4] at z; cases z⟩
  · obtain ⟨⟨old, a1⟩, a4⟩ := st
    exact ⟨⟨old, k _ (by simp) _ a1⟩, a4.at fun o e => k _ (by simp) o e⟩
  · intro X' hP hw hK hc pins' s' σ' H' I' hL
    rw [← hK] at hL
    obtain ⟨jt1, sv1, ql1, _⟩ := I'.list hL
    have m1 := sv1.length
    have ne1 : l ≠ s1.heap.objs.size := Nat.ne_of_lt b1
    have Wz := WalksT.enumerateD (A := X'.A) (Draws.list (prog := X.prog) (w := X.w) (A := X'.A.in1) (I'.ok.hd hc) s1.heap.objs.size l ne1 jt1.toArray) (s1.heap.objs.size + 1) (Nat.succ_ne_self _) (fun z => by
      simp only [List.mem_cons, List.not_mem_nil, or_false] at z
      rcases z with z | z
      · exact Nat.succ_ne_self _ z
      · exact absurd b1 (by rw [← z]; exact Nat.not_lt_of_le (Nat.le_succ _))) (by simp)
    rw [show jt1.toArray.size = xs.length by show jt1.length = _; rw [m1]] at Wz
    refine ⟨_, _, _, Wz, fun i st => ?_, fun i h st => ?_, fun i vals pv => ?_⟩
    · exact ⟨st.1, st.2, ql1.isList⟩
    · exact ⟨st.1, st.2.1⟩
    · obtain ⟨t, x, e1, rfl⟩ := pv
      have e1 : jt1[i]? = some x := by simpa using e1
      have c1 : i < xs.length := by rw [m1]; exact (List.getElem?_eq_some_iff.mp e1).1
      obtain ⟨u, d1, d2⟩ := sv1.get (List.getElem?_eq_getElem c1)
      rw [e1] at d1
      cases d1
      show Vals [.int (i : Nat), xs.getD i .non] [.int i t, x]
      rw [List.getD_eq_getElem?_getD, List.getElem?_eq_getElem c1]
      exact .cons ⟨t, rfl⟩ (.cons d2 .nil)
end
end L2
namespace L2
open PySem PySem.Spec PyProof.Rows
section
variable {X : Cx}
end
end L2
namespace L2
open PySem PySem.Spec PyProof.Rows PySem.SeqAt PySem.MeetsSeq
section
variable {X : Cx}
end
end L2
namespace L2
open PySem PySem.Spec PyProof.Rows
section
variable {X : Cx} {e st : Expr} {te ts : TE} {p2 pos : Pos}
end
end L2
namespace L2
open PySem PySem.Spec PyProof.Rows PySem.SeqAt
section
variable {X : Cx}
def RpOk (D : PyData) : Prop := D.showable = true ∧ D.hasDict = false ∧ D.shown.length ≤ sizeLine ∧ D.depth ≤ 16
end
def Rb (n : Nat) (D : PyData) : Prop := D.showable = true ∧ D.hasDict = false ∧ D.leavesShort 8 = true ∧ D.bulk ≤ n
def RbA (n : Nat) (Ds : List PyData) : Prop := PyData.showableAll Ds = true ∧ PyData.hasDictAll Ds = false ∧ PyData.leavesShortAll 8 Ds = true ∧ PyData.bulkAll Ds ≤ n
theorem RbA.nil {n : Nat} : RbA n [] := ⟨rfl, rfl, rfl, Nat.zero_le _⟩
theorem RbA.cons {m n : Nat} {d : PyData} {ds : List PyData} (h : Rb m d) (t : RbA n ds) : RbA (m + 1 + n) (d :: ds) := by
  obtain ⟨a1, a2, a3, a4⟩ := h
  obtain ⟨b1, b2, b3, b4⟩ := t
  refine ⟨?_, ?_, ?_, ?_⟩
  · show (d.showable && _) = true; rw [a1, b1]; rfl
  · show (d.hasDict || _) = false; rw [a2, b2]; rfl
  · show (d.leavesShort 8 && _) = true; rw [a3, b3]; rfl
  · show d.bulk + 1 + _ ≤ _; omega
theorem RbA.lst {n : Nat} {ds : List PyData} (h : RbA n ds) : Rb n (.list ds) := h
theorem RbA.tup {n : Nat} {ds : List PyData} (h : RbA n ds) : Rb n (.tuple ds) := h
theorem RbA.all {m : Nat} : ∀ {ds : List PyData}, (∀ d ∈ ds, Rb m d) → RbA ((m + 1) * ds.length) ds
  | [], _ => RbA.nil
  | d :: ds, h => by
    have := RbA.cons (h d List.mem_cons_self) (RbA.all fun x hx => h x (List.mem_cons_of_mem _ hx))
    rw [List.length_cons, Nat.mul_succ, Nat.add_comm ((m + 1) * ds.length)]
    exact this
theorem Rb.mono {m n : Nat} {d : PyData} (h : Rb m d) (le : m ≤ n) : Rb n d := ⟨h.1, h.2.1, h.2.2.1, Nat.le_trans h.2.2.2 le⟩
theorem Rb.ok {n : Nat} {d : PyData} (h : Rb n d) (hn : n ≤ 1000) (hd : d.depth ≤ 16) : RpOk d := by
  have := PyData.shown_le_bulk 8 (Nat.le_refl _) d h.2.2.1
  have z : (10100 : Nat) ≤ sizeLine := by decide
  have b := h.2.2.2
  exact ⟨h.1, h.2.1, by omega, hd⟩
end L2
namespace L2
open PySem PySem.Spec PyProof.Rows
section
variable {X : Cx} {k : Nat} {f : Addr} {fd : FuncData} {ps : List Str} {sp : Sp} {E : XK}
structure Aw (X : Cx) (pins : List (Addr × Obj)) (a : Addr) : Prop where
  loc : a ≠ X.env.locals
  ab : X.s₀.heap.objs.size ≤ a
  cel : ∀ x c, X.env.cells.lookup x = some c → c ≠ a
  pin : ∀ p ∈ X.pn ++ pins, p.1 ≠ a
  fs : a ∉ X.fs
theorem Inv.aw {pins : List (Addr × Obj)} {σ : St} {H : Hp} {s : Shared} (I : Inv X pins σ H s) {a : Addr} (h : s.heap.objs.size ≤ a) : Aw X pins a := by
  refine ⟨Nat.ne_of_gt (Nat.lt_of_lt_of_le I.lt h), Nat.le_trans I.sz h, fun x c e => ?_, fun p hp => ?_, I.nofs h⟩
  · obtain ⟨v, o, ho, _⟩ := I.cell x c e
    exact Nat.ne_of_lt (Nat.lt_of_lt_of_le (Heap.lt_size ho) h)
  · exact Nat.ne_of_lt (Nat.lt_of_lt_of_le (Heap.lt_size (I.pin p hp).1) h)
theorem Inv.adopt {pins : List (Addr × Obj)} {σ : St} {H : Hp} {s : Shared} {a : Addr} {ys : List V} {its : List Value} {n : Nat} (I : Inv X pins σ H s) (w : Aw X pins a) (hn : H a = none) (hv : Vals ys its) (hz : ys.length ≤ sizeLine)
    (e : s.heap.get? a = some { cls := .type "list", data := .seq its.toArray n }) : Inv X pins σ (upd H a (.lst ys)) s := by
  refine ⟨I.ok, I.os, I.bare, ⟨I.base.keep, I.base.slot, fun b o q n' hx => ?_, I.base.there, fun b xs q => ?_, fun b o u q => ?_, fun b ps q => ?_⟩, I.loc, I.cell, ?_, fun x c q => ?_, fun p hp => ?_, fun b u q => ?_, I.len⟩
  · rw [upd_ne (Nat.ne_of_lt (Nat.lt_of_lt_of_le (Heap.lt_size q) w.ab))]; exact I.base.free b o q n' hx
  · have := I.base.tups b xs q
    rw [upd_ne (ne_of_none this hn)]; exact this
  · have := I.base.frzs b o u q
    rw [upd_ne (ne_of_none this hn)]; exact this
  · obtain ⟨m, this⟩ := I.base.tbls b ps q
    exact ⟨m, by rw [upd_ne (ne_of_none this hn)]; exact this⟩
  · rw [upd_ne (Ne.symm w.loc)]; exact I.free
  · rw [upd_ne (w.cel x c q)]; exact I.freeC x c q
  · obtain ⟨h1, h2, h3⟩ := I.pin p hp
    exact ⟨h1, by rw [upd_ne (w.pin p hp)]; exact h2, h3⟩
  · by_cases hb : b = a
    · subst hb
      rw [upd_same] at q; cases q
      exact ⟨hz, its, n, hv, e⟩
    · rw [upd_ne hb] at q
      exact (I.hok b u q).stay (fun c v _ r => r) (fun c r => by rw [upd_ne (ne_of_none r hn)]; exact r) fun c xs r => by rw [upd_ne (ne_of_none r hn)]; exact r
theorem Inv.repinL {pins : List (Addr × Obj)} {σ : St} {H : Hp} {s : Shared} {a : Addr} {its : Array Value} {n : Nat} (f : Array Value → Array Value) (I : Inv X pins σ H s) (w : Aw X pins a) (hn : H a = none) (e : s.heap.get? a = some (seqObj "list" its n)) :
    ∃ n', Inv X pins σ H { s with heap := s.heap.update a (Obj.mapSeq f) } ∧ (s.heap.update a (Obj.mapSeq f)).get? a = some (seqObj "list" (f its) n') := by
  obtain ⟨c, hc⟩ : ∃ c, (s.heap.update a (Obj.mapSeq f)).get? a = some (seqObj "list" (f its) c) := ⟨_, get?_update_seq e f⟩
  refine ⟨c, ?_, hc⟩
  exact I.turned (t' := s.toks) (it := a) (fun b o hb q => (Heap.get?_update_other s.heap _ (Ne.symm hb)).trans q) hn w.loc (.inr w.ab) w.cel w.pin
theorem Inv.pinL {pins : List (Addr × Obj)} {σ : St} {H : Hp} {s : Shared} {a : Addr} {its : Array Value} {n : Nat} (I : Inv X pins σ H s) (w : Aw X pins a) (hn : H a = none) (e : s.heap.get? a = some (seqObj "list" its n)) :
    Inv X ((a, seqObj "list" its n) :: pins) σ H s := I.pins_of fun p hp => by
  rcases List.mem_cons.mp hp with rfl | hp
  · exact ⟨e, hn, w.loc, w.fs, fun v q => by cases q⟩
  · exact I.pin p (List.mem_append_right _ hp)
theorem Inv.unpin {pins : List (Addr × Obj)} {σ : St} {H : Hp} {s : Shared} {q : Addr × Obj} (I : Inv X (q :: pins) σ H s) : Inv X pins σ H s := I.pins_of fun p hp => I.pin p (List.mem_append_right _ (List.mem_cons_of_mem _ hp))
theorem Aw.cons {pins : List (Addr × Obj)} {a b : Addr} {o : Obj} (w : Aw X pins a) (h : b ≠ a) : Aw X ((b, o) :: pins) a := ⟨w.loc, w.ab, w.cel, fun p hp => by
  rcases List.mem_append.mp hp with q | q
  · exact w.pin p (List.mem_append_left _ q)
  · rcases List.mem_cons.mp q with rfl | q
    · exact h
    · exact w.pin p (List.mem_append_right _ q), w.fs⟩
end
end L2
namespace L2
open PySem PySem.Spec PyProof.Rows
section
variable {X : Cx}
end
end L2
namespace L2
open PySem PySem.Spec PyProof.Rows
theorem run_lam {P : Program} {w : World} {K : PySem.W.Frag} {mg : Str → Option Value} {base : Heap} {A : Around} {outer : List Env} {s : Shared} {H : Hp} {Q : VK} {f c' : Addr} {scope : Scope} {name qual : Str} {params : Arguments} {body : Expr} {x : Str} {pm ctv : Value} {v : V} {u : Value} {t : TE} {k : Nat}
    (hr : Room k A) (e0 : Env0 P w K mg base A outer s H) (ho : s.heap.get? f = some (PySem.W.kla_obj name qual params body scope [] pm c' ctv)) (hcd : s.heap.CodeRec (.ref c') qual) (S : FnScope [x] [x] scope)
    (hb : bindArgs (PySem.W.kla_fn name qual params body scope [] pm (.ref c') ctv) ⟨[u], []⟩ = pure [(x, u)]) (r : RelV v u)
    (ht : PE (cxOf CX0 P w K mg base [x] qual scope f (.ref c') A outer s H E0) body t) (hq : t (start [x] [v]) H Q) :
    codeAny (model P w) A (.call (.ref f) ⟨[u], []⟩) (CR CX0 outer P w H s Q E0) s := by
  have lim : s.heap.NoLimit := e0.mod.nolimit.keeps fun b o e => (e0.bs b o e).1
  refine PySem.W.kla_callFunE hr.depth ho rfl S.co S.gen rfl hcd ?_
  rw [hb]
  have hkind : ∀ y ∈ [(x, u)], scope.names.lookup y.1 = some .local ∨ (scope.names.lookup y.1 = some .cell ∧ ((cellsFrom (s.heap.objs.size + 1) scope.names []).lookup y.1).isSome = true) := fun y hy => by
    rw [List.mem_singleton] at hy
    subst hy
    rcases S.par x List.mem_cons_self with q | q
    · exact .inl q
    · exact .inr ⟨q, PySem.W.cellsFrom_some _ _ _ (.inl q)⟩
  refine wpAny_pure (wpAny_newFunctionEnv_cells S.kind hkind fun env he s1 y => ?_)
  subst he
  refine ⟨lim.keeps y.toInCall.keep, PySem.W.kla_codeExpr ?_⟩
  have I : Inv (cxOf CX0 P w K mg base [x] qual scope f (.ref c') A outer s H E0) [] (start [x] [v]) H s1 := inv_start S hr.hd e0 rfl (.cons r .nil) y
  refine wpAny_mono (ht [] s1 (start [x] [v]) H Q I hq) (fun u' s' ⟨v', H', J, rv, q⟩ => ⟨v', H', J.os, J.bare, J.base, J.hok, rv, q⟩) fun e s' hs => hs
section
variable {X : Cx}
end
end L2
namespace L2
open PySem PySem.Spec PyProof.Rows
def ExtB (P : Addr) (H H' : Hp) : Prop := ∀ b o, b ≠ P → H b = some o → H' b = some o
section
variable {X : Cx} {pins : List (Addr × Obj)} {σ : St} {H : Hp} {s : Shared}
theorem Inv.grown {P : Addr} {ps more : Array Value} {h' : Heap} {tk : Nat} (I : Inv X pins σ H s) (hP : H P = some (.tbl ps)) (hx : Heap.ExtBut P s.heap h') (hg : h'.get? P = some { cls := .none, data := .fields (ps ++ more) }) :
    Inv X pins σ (upd H P (.tbl (ps ++ more))) { s with heap := h', toks := tk } := by
  have ne : ∀ b, H b = none → b ≠ P := fun b n z => by rw [z, hP] at n; cases n
  refine I.step (g' := s.gens) (d' := s.drawn) (ch := []) (fun _ z => nomatch z) (fun b o _ _ _ e n => hx b o (ne b n) e) (fun b o _ _ _ e n => ⟨o.slots, hx b o (ne b n) e⟩) (fun b o _ e n => by rw [upd_ne (ne b n)]; exact n) (fun b o _ e => ?_)
    (fun b xs q => ?_) (fun b o u q => ?_) (fun b qs q => ?_) (fun m hm => hm.extBut hx (ne _ I.free)) (fun b u q => ?_) I.bare
  · by_cases hb : b = P
    · rw [hb]; exact ⟨_, hg⟩
    · exact ⟨o, hx b o hb e⟩
  · have : b ≠ P := fun z => by rw [z, hP] at q; cases q
    rw [upd_ne this]; exact q
  · have : b ≠ P := fun z => by rw [z, hP] at q; cases q
    rw [upd_ne this]; exact q
  · by_cases hb : b = P
    · subst hb
      rw [hP] at q; cases q
      exact ⟨more, upd_same⟩
    · exact ⟨#[], by rw [upd_ne hb, q]; simp⟩
  · by_cases hb : b = P
    · subst hb
      rw [upd_same] at q; cases q
      exact hg
    · rw [upd_ne hb] at q
      refine (I.hok b u q).stay (fun c v hc r => hx c v ?_ r) (fun c r => ?_) fun c xs r => ?_
      · rcases hc with rfl | hc
        · exact hb
        · intro z; rw [z, hP] at hc; cases hc
      · have : c ≠ P := fun z => by rw [z, hP] at r; cases r
        rw [upd_ne this]; exact r
      · have : c ≠ P := fun z => by rw [z, hP] at r; cases r
        rw [upd_ne this]; exact r
end
structure LamAt (X : Cx) (c P : Addr) : Prop where
  code : X.env.code = .ref c
  hd : PySem.W.CodeHd X.base c P
  bl : X.base.BuiltinsAt X.mg P
section
variable {X : Cx} {k : Nat}
end
end L2
namespace L2
open PySem PySem.Spec PyProof.Rows
def OnlyT (T : Addr) (H : Hp) : Prop := ∀ b, b ≠ T → H b = none ∨ ∃ o xs, H b = some (.frz o (.lst xs))
theorem mem_lk {β : Type} : ∀ {l : List (Addr × β)} {a : Addr} {b : β}, l.lookup a = some b → (a, b) ∈ l
  | [], _, _, h => by cases h
  | (k, v) :: l, a, b, h => by
    rw [List.lookup_cons] at h
    by_cases e : (a == k) = true
    · rw [e] at h
      cases h
      rw [beq_iff_eq.mp e]
      exact List.mem_cons_self
    · rw [Bool.not_eq_true] at e
      rw [e] at h
      exact List.mem_cons_of_mem _ (mem_lk h)
theorem noTab {K : PySem.W.Frag} {h : Heap} {T : Addr} {ps : Array Value} (X : K.In h) (n : PySem.W.noTabs K = true) (e : h.get? T = some (PySem.W.tabObj ps)) : K.lookup T = none := by
  cases q : K.lookup T with
  | none => rfl
  | some o =>
    have e2 := X T o q
    rw [e] at e2
    cases e2
    have m := mem_lk q
    have := List.all_eq_true.mp n _ m
    cases this
theorem law_callT {P : Program} {w : World} {K : PySem.W.Frag} {mg mb : Str → Option Value} {CX : CXT} {k : Nat} {fa a c T : Addr} {fd : FuncData} {x : Str} {sp : Sp} {s₁ : Shared} {vs : List Value} {ns : List Int}
    (KX : K.In s₁.heap) (hns : s₁.heap.Ns mainGlobals mg) (hb : s₁.heap.Ns builtinsNs mb) (hbb : ∀ x : Str, x ≠ "__name__" → mb x = bootBuiltins x) (hlim : s₁.heap.NoLimit) (hg : s₁.gens = #[])
    (ha : s₁.heap.get? a = some { cls := .type "list", data := .seq vs.toArray }) (hi : IntsAre vs ns) (hl : ns.length ≤ sizeLine) (hr : Room k callerA)
    (hC : PySem.W.CodeHd s₁.heap c T) (hT : s₁.heap.get? T = some (PySem.W.tabObj #[])) (hnt : PySem.W.noTabs K = true) (hB : s₁.heap.BuiltinsAt mg T)
    (F : ∀ base : Heap, K.In base → base.Ns mainGlobals mg → PySem.W.CodeHd base c T → base.BuiltinsAt mg T → FnOk P w K mg base CX k fa fd [x] sp) (hbind : ∀ (s : Shared) (u : Value), BindsTo s fd ⟨[u], []⟩ [(x, u)])
    (hsp : ∀ H : Hp, H T = some (.tbl #[]) → SqL K H a (ns.map V.int) → sp [.ref a] H (fun v _ => v = .bl true) fun _ _ _ => False)
    (hCX : ∀ H e s', CX [] H s₁ (fun _ _ _ => False) e s' → False) :
    codeAny (model P w) callerA (.call (.ref fa) ⟨[.ref a], []⟩) (fun r s' => r = .ok (.ret (.bool true)) ∧ OldK s₁.heap s'.heap ∧ s'.os = s₁.os ∧ AllBare s'.gens) s₁ := by
  have rv := vals_ints hi
  have lenV := hi.length
  have hKT := noTab KX hnt hT
  have aT : a ≠ T := fun z => by rw [z, hT] at ha; cases ha
  have core : ∀ H : Hp, OnlyT T H → H T = some (.tbl #[]) → SqL K H a (ns.map V.int) → HOk P w H s₁.heap → (∀ b, H b ≠ none → b = a ∨ b = T) → (H a ≠ none → K.lookup a = none) →
      codeAny (model P w) callerA (.call (.ref fa) ⟨[.ref a], []⟩) (fun r s' => r = .ok (.ret (.bool true)) ∧ OldK s₁.heap s'.heap ∧ s'.os = s₁.os ∧ AllBare s'.gens) s₁ := by
    intro H hO hHT hS hok hA hK
    have base_of : ∀ {b : Addr} {o : Obj}, s₁.heap.get? b = some o → H b = none → (hidT s₁.heap H).get? b = some o := fun e n => hidT_get e n
    have noA : ∀ {b : Addr} {o : Obj}, s₁.heap.get? b = some o → (∀ vs n, o.data ≠ .seq vs n) → o ≠ PySem.W.tabObj #[] → H b = none := fun {b o} e d1 d2 => by
      cases q : H b with
      | none => rfl
      | some u =>
        rcases hA b (by rw [q]; simp) with e' | e'
        · subst e'
          rw [ha] at e; cases e
          exact absurd rfl (d1 _ _)
        · subst e'
          rw [hT] at e
          exact absurd (Option.some.inj e).symm d2
    have nsK : ∀ {b : Addr} {m : Str → Option Value}, s₁.heap.Ns b m → (hidT s₁.heap H).Ns b m := fun {b m} ⟨o, es, ep, e, d, r⟩ => ⟨o, es, ep, base_of e (noA e (fun _ _ z => by rw [d] at z; cases z) (fun z => by rw [z] at d; cases d)), d, r⟩
    have hKb : K.In (hidT s₁.heap H) := fun b o e => base_of (KX b o e) (by
      cases q : H b with
      | none => rfl
      | some u =>
        rcases hA b (by rw [q]; simp) with e' | e'
        · subst e'
          rw [hK (by rw [q]; simp)] at e; cases e
        · subst e'
          rw [hKT] at e; cases e)
    have hM : Mod K mg (hidT s₁.heap H) := ⟨hKb, nsK hns, ⟨mb, nsK hb, hbb⟩, let ⟨mc, h1, h2⟩ := hlim; ⟨mc, nsK h1, h2⟩⟩
    have hC' : PySem.W.CodeHd (hidT s₁.heap H) c T := by
      obtain ⟨o, vs', file, tf, flags, tg, inF, text, tt, e1, e2, e3, r⟩ := hC
      refine ⟨o, vs', file, tf, flags, tg, inF, text, tt, base_of e1 (noA e1 (fun _ _ z => by rw [e3] at z; cases z) (fun z => by rw [z] at e2; cases e2)), e2, e3, r⟩
    have hB' : (hidT s₁.heap H).BuiltinsAt mg T := by
      obtain ⟨bm, ob, b1, b2, b3, b4, b5, b6, b7, b8⟩ := hB
      exact ⟨bm, ob, b1, b2, b3, b4, base_of b5 (noA b5 (fun _ _ z => by rw [b8] at z; cases z) (fun z => by rw [z] at b8; cases b8)), b6, b7, b8⟩
    have e0 : Env0 P w K mg (hidT s₁.heap H) callerA [] s₁ H := ⟨rfl, hM, fun b o e => of_hidT e, Nat.le_of_eq (hidT_size _ _), trivial, fun b hb => absurd (show b ∈ ([] : List Addr) from hb) (by simp), hok, .of_eq hg⟩
    refine codeAny_mono ((F _ hKb (nsK hns) hC' hB').run callerA [] s₁ H ⟨[.ref a], []⟩ [.ref a] [.ref a] _ _ hr e0 (hbind s₁ (.ref a)) (.cons rfl .nil) (hsp H hHT hS)) fun r s' h => ?_
    cases r with
    | error e => exact (hCX H e s' h).elim
    | ok fl =>
      cases fl with
      | next => exact False.elim h
      | brk => exact False.elim h
      | cont => exact False.elim h
      | ret u =>
        obtain ⟨v, H', os, bare, un, hok', r', q⟩ := h
        have q' : v = .bl true := q
        subst q'
        obtain rfl : u = Value.bool true := r'
        obtain ⟨more, hmT⟩ := un.tbls T _ hHT
        have hTs : s'.heap.get? T = some { cls := .none, data := .fields (#[] ++ more) } := hok' T _ hmT
        refine ⟨rfl, ⟨fun b o e => ?_, fun b o e => ?_⟩, os, bare⟩
        · by_cases hbT : b = T
          · subst hbT
            rw [hT] at e; cases e
            exact .inr (.inl ⟨(hC.tab hT).isCodeTable, rfl, #[], more, rfl, hTs⟩)
          · refine .inl ?_
            cases q : H b with
            | none => exact un.keep b o e q (by intro z; exact absurd (show b ∈ ([] : List Addr) from z) (by simp)) (by simp)
            | some u =>
              rcases hO b hbT with z | ⟨ob, xs, z⟩
              · rw [q] at z; cases z
              · have z2 := un.frzs b ob _ z
                obtain ⟨e1, _⟩ := hok b _ z
                obtain ⟨e2, _⟩ := hok' b _ z2
                rw [e] at e1; cases e1
                exact e2
        · by_cases hbT : b = T
          · rw [hbT]; exact ⟨_, hTs⟩
          · cases q : H b with
            | none => exact ⟨o, un.keep b o e q (by intro z; exact absurd (show b ∈ ([] : List Addr) from z) (by simp)) (by simp)⟩
            | some u =>
              rcases hO b hbT with z | ⟨ob, xs, z⟩
              · rw [q] at z; cases z
              · obtain ⟨e2, _⟩ := hok' b _ (un.frzs b ob _ z)
                exact ⟨_, e2⟩
  have tOk : ∀ H : Hp, ObjOk P w H s₁.heap T (.tbl #[]) := fun _ => hT
  cases hk : K.lookup a with
  | some o =>
    have e := KX a o hk
    rw [ha] at e
    cases e
    refine core (fun b => if b = T then some (.tbl #[]) else none) (fun b hb => .inl (if_neg hb)) (if_pos rfl) (.inr ⟨_, vs.toArray, _, hk, rfl, rfl, rfl, by rw [List.size_toArray, lenV]; exact hl, by simpa using rv⟩) (fun b u z => ?_) (fun b z => ?_) (fun z => absurd (if_neg aT) z)
    · by_cases hb : b = T
      · have z' := (if_pos hb).symm.trans z
        cases z'
        subst hb
        exact tOk _
      · have z' := (if_neg hb).symm.trans z
        cases z'
    · by_cases hb : b = T
      · exact .inr hb
      · exact absurd (if_neg hb) z
  | none =>
    refine core (fun b => if b = T then some (.tbl #[]) else if b = a then some (.frz { cls := .type "list", data := .seq vs.toArray } (.lst (ns.map V.int))) else none) (fun b hbT => ?_) (if_pos rfl) (.inl (.inr ⟨{ cls := .type "list", data := .seq vs.toArray }, (if_neg aT).trans (if_pos rfl)⟩)) (fun b u z => ?_) (fun b z => ?_) fun _ => hk
    · by_cases hb : b = a
      · exact .inr ⟨_, _, (if_neg hbT).trans (if_pos hb)⟩
      · exact .inl ((if_neg hbT).trans (if_neg hb))
    · by_cases hbT : b = T
      · have z' := (if_pos hbT).symm.trans z
        cases z'
        subst hbT
        exact tOk _
      · have z := (if_neg hbT).symm.trans z
        by_cases hb : b = a
        · have z' := (if_pos hb).symm.trans z
          cases z'
          subst hb
          exact ⟨ha, by rw [List.length_map]; exact hl, vs, _, rv, ha⟩
        · have z' := (if_neg hb).symm.trans z
          cases z'
    · by_cases hbT : b = T
      · exact .inr hbT
      · by_cases hb : b = a
        · exact .inl hb
        · exact absurd ((if_neg hbT).trans (if_neg hb)) z
theorem walk_ofT {l : PySem.W.OpenLaw} {n k : Nat} {q : Program} {loose : List Str} {XP : (Str → Option Value) → Heap → Prop} {YP : World → Heap → Prop} {d dr : DefRec} {K : Params → PySem.W.Frag} {CX : World → CXT} {sp : World → Addr → Sp} {x tx : Str}
    (hn : l.most = some n) (hn2 : n ≤ sizeLine) (hdf : d.params.defaults = []) (hr : Room k callerA)
    (hY : ∀ (w : World) (h : Heap), YP w h → (K w.params).In h) (hrec : (recsOf q).find? (fun e => e.name == tx) = some dr)
    (hK : ∀ w : World, ∃ c T, PySem.W.tabIn (K w.params) tx = some (c, T) ∧ PySem.W.noTabs (K w.params) = true)
    (F : ∀ (w : World) (mg : Str → Option Value) (fa : Addr) (h : Heap) (c T : Addr), (K w.params).In h → h.Ns mainGlobals mg → mg d.name = some (.ref fa) → PySem.W.tabIn (K w.params) tx = some (c, T) →
      ∃ fd : FuncData, (∀ (s : Shared) (u : Value), BindsTo s fd ⟨[u], []⟩ [(x, u)]) ∧
        ∀ base : Heap, (K w.params).In base → base.Ns mainGlobals mg → PySem.W.CodeHd base c T → base.BuiltinsAt mg T → FnOk l.prog w (K w.params) mg base (CX w) k fa fd [x] (sp w T))
    (hsp : ∀ (w : World) (T : Addr) (H : Hp) (a : Addr) (ns : List Int), ns.length ≤ n → H T = some (.tbl #[]) → SqL (K w.params) H a (ns.map V.int) → sp w T [.ref a] H (fun v _ => v = .bl true) fun _ _ _ => False)
    (hCX : ∀ (w : World) (H : Hp) (s : Shared) (e : Value) (s' : Shared), CX w [] H s (fun _ _ _ => False) e s' → False) :
    PySem.W.WalkO q loose XP YP l.row.toRowW d [] (fun f vs => PySem.call f vs) := by
  refine Att.attach_call hn hdf fun w s₀ s₁ mg mb fa o pm cd doc a vs ns G Y ho hd hcd hmg hobj hints hlen hg => ?_
  have KX := hY w _ Y
  obtain ⟨c, T, ht, hnt⟩ := hK w
  obtain ⟨hC, hT⟩ := PySem.W.tab_of G.T KX hrec ht
  obtain ⟨bm, ob, b1, b2, b3, b4, b5, b6⟩ := G.T.bmain
  have hbT : bm ≠ T := fun z => by rw [z, hT] at b3; cases b3; cases b4
  have hbG : bm ≠ mainGlobals := fun z => by
    obtain ⟨o', es, ep, e, hd', _⟩ := G.T.g
    rw [z, e] at b3; cases b3; rw [hd'] at b6; cases b6
  obtain ⟨fd, hb, hF⟩ := F w mg fa _ c T KX G.T.g hmg ht
  exact law_callT KX G.T.g G.T.b G.T.builtins G.T.nolimit hg hobj hints (Nat.le_trans hlen hn2) hr hC hT hnt ⟨bm, ob, b1, b2, hbG, hbT, b3, b4, b5, b6⟩ hF hb (fun H hO hS => hsp w T H a ns hlen hO hS) fun H e s' => hCX w H s₁ e s'
section
variable {P : Program} {w : World} {K : PySem.W.Frag} {mg : Str → Option Value} {base : Heap}
theorem Fun.okC {x qual : Str} {st : Stmt} {f : Addr} {fd : FuncData} {N ps : List Str} {k : Nat} {sp : Sp} (F : Fun K x qual st f fd) (S : FnScope N ps (defScope st)) (len : ∀ vs H Q E, sp vs H Q E → vs.length = ps.length)
    (hbody : ∀ (A : Around) (outer : List Env) (s : Shared) (H : Hp) (vs : List V) (Q : VK) (E : XK), Room k (A.deeper (envOfC qual (defScope st) s.heap.objs.size f fd.code)) → sp vs H Q E →
      ∃ t, PSs (cxOf CX0 P w K mg base N qual (defScope st) f fd.code A outer s H E).nox (defBody st) t ∧ t { nx := fun _ H' => Q .non H', rt := Q } (start N vs) H) : FnOk P w K mg base CX0 (k + 1) f fd ps sp := by
  obtain ⟨oc, od, kV, doc, pm, an, cdv, ct, osl, rfl, lk, hcd⟩ := F.ex
  refine fn_of lk hcd S len fun A outer s H vs Q E hr hsp => ?_
  obtain ⟨t, h, q⟩ := hbody A outer s H vs Q E hr hsp
  exact ⟨t, h.nox, q⟩
theorem code_of {x qual : Str} {st : Stmt} {f c T : Addr} {fd : FuncData} (F : Fun K x qual st f fd) (a : PySem.W.nsIn K mainGlobals x = some (some (.ref f))) (h : PySem.W.tabIn K x = some (c, T)) : fd.code = .ref c := by
  obtain ⟨oc, od, kV, doc, pm, an, cdv, ct, osl, rfl, lk, hcd⟩ := F.ex
  unfold PySem.W.tabIn at h
  rw [a] at h
  dsimp only at h
  rw [lk] at h
  dsimp only at h
  show cdv = _
  cases cdv with
  | ref c2 =>
    dsimp only at h
    split at h
    · split at h
      · cases h; rfl
      · cases h
    · cases h
  | _ => cases h
end
end L2
namespace L2
open PySem PySem.Spec PyProof.Rows
section
variable {prog : Program} {w : World} {A : Around} {E : Value → Shared → Prop} {s : Shared}
end
section
variable {X : Cx} {tg : Expr}
end
end L2
namespace L2
open PySem PySem.Spec PyProof.Rows
section
variable {X : Cx}
end
end L2
namespace L2
open PySem PySem.Spec PyProof.Rows
section
variable {X : Cx} {pins : List (Addr × Obj)} {σ : St} {H : Hp} {s : Shared}
theorem Inv.adoptX {a : Addr} {φ : Heap → Prop} (I : Inv X pins σ H s) (w : Aw X pins a) (hn : H a = none) (hφ : ObjOk X.prog X.w (upd H a (.ext φ)) s.heap a (.ext φ)) : Inv X pins σ (upd H a (.ext φ)) s := by
  refine ⟨I.ok, I.os, I.bare, ⟨I.base.keep, I.base.slot, fun b o q n' hx => ?_, I.base.there, fun b xs q => ?_, fun b o u q => ?_, fun b ps q => ?_⟩, I.loc, I.cell, ?_, fun x c q => ?_, fun p hp => ?_, fun b u q => ?_, I.len⟩
  · rw [upd_ne (Nat.ne_of_lt (Nat.lt_of_lt_of_le (Heap.lt_size q) w.ab))]; exact I.base.free b o q n' hx
  · have := I.base.tups b xs q
    rw [upd_ne (ne_of_none this hn)]; exact this
  · have := I.base.frzs b o u q
    rw [upd_ne (ne_of_none this hn)]; exact this
  · obtain ⟨m, this⟩ := I.base.tbls b ps q
    exact ⟨m, by rw [upd_ne (ne_of_none this hn)]; exact this⟩
  · rw [upd_ne (Ne.symm w.loc)]; exact I.free
  · rw [upd_ne (w.cel x c q)]; exact I.freeC x c q
  · obtain ⟨h1, h2, h3⟩ := I.pin p hp
    exact ⟨h1, by rw [upd_ne (w.pin p hp)]; exact h2, h3⟩
  · by_cases hb : b = a
    · subst hb
      rw [upd_same] at q; cases q
      exact hφ
    · rw [upd_ne hb] at q
      exact (I.hok b u q).stay (fun c v _ r => r) (fun c r => by rw [upd_ne (ne_of_none r hn)]; exact r) fun c xs r => by rw [upd_ne (ne_of_none r hn)]; exact r
end
def codeO (c : Addr) (q : Str) : HO := .ext fun h => h.CodeRec (.ref c) q
theorem codeO_ok {P : Program} {w : World} {H : Hp} {h : Heap} {c : Addr} {q : Str} (r : h.CodeRec (.ref c) q) : ObjOk P w H h c (codeO c q) := by
  obtain ⟨c2, oc, vs, t, e, ho, hd, hv⟩ := id r
  cases e
  refine ⟨r, ⟨oc, ho⟩, fun h1 h2 r1 k => ?_⟩
  obtain ⟨c3, oc', vs', t', e', ho', hd', hv'⟩ := r1
  cases e'
  exact ⟨c, oc', vs', t', rfl, k _ ho', hd', hv'⟩
def TabW (H : Hp) (P : Addr) (lpos : Pos) (q : Str) : Prop := H P = some (.tbl #[]) ∨ ∃ c', H P = some (.tbl #[rawInt lpos.line, rawInt lpos.col, .ref c']) ∧ H c' = some (codeO c' q)
theorem among3 (lpos : Pos) (v : Value) : codeAmong lpos (#[rawInt lpos.line, rawInt lpos.col, v] : Array Value).toList = some v := by
  show (if _ then _ else _) = _
  simp
theorem TabW.ext {H H' : Hp} {P : Addr} {lpos : Pos} {q : Str} (h : TabW H P lpos q) (e : ∀ b o, H b = some o → H' b = some o) : TabW H' P lpos q := by
  rcases h with h | ⟨c, h1, h2⟩
  · exact .inl (e _ _ h)
  · exact .inr ⟨c, e _ _ h1, e _ _ h2⟩
section
variable {X : Cx} {k : Nat}
theorem sq_B {K : PySem.W.Frag} {H H' : Hp} {P l : Addr} {xs : List V} {ps : Array Value} (hP : H P = some (.tbl ps)) (e : ExtB P H H') (hq : SqL K H l xs) : SqL K H' l xs := by
  rcases hq with (hq | ⟨o, hq⟩) | hq
  · exact .inl (.inl (e _ _ (fun z => by rw [z, hP] at hq; cases hq) hq))
  · exact .inl (.inr ⟨o, e _ _ (fun z => by rw [z, hP] at hq; cases hq) hq⟩)
  · exact .inr hq
end
end L2
namespace L2
open PySem PySem.Spec PyProof.Rows
def gallop' : Bool → Keyed → Array Keyed → Nat → Nat → Nat → StateT SortSt Sem (Option Nat) := sortPriv% PySem.Builtin.gallop
def beyond' (left : Bool) (key : Keyed) (arr : Array Keyed) (base : Nat) (i : Nat) : StateT SortSt Sem (Option Bool) := do
  let x ← elem' arr (base + i)
  if left then lt' x key else return (← lt' key x).map (!·)
def g3 (left : Bool) (key : Keyed) (arr : Array Keyed) (base n lo0 hi0 : Nat) : StateT SortSt Sem (Option Nat) := do
  let mut lo := lo0
  let mut hi := hi0
  for _ in [0:n] do
    if lo ≥ hi then break
    let m := lo + (hi - lo) / 2
    let some more ← beyond' left key arr base m | return none
    if more then lo := m + 1 else hi := m
  return some hi
theorem gallop'_eq (left : Bool) (key : Keyed) (arr : Array Keyed) (base n hint : Nat) : gallop' left key arr base n hint = (do
  let mut lastofs := 0
  let mut ofs := 1
  let some right ← beyond' left key arr base hint | return none
  if right then
    let maxofs := n - hint
    for _ in [0:n] do
      if ofs ≥ maxofs then break
      let some more ← beyond' left key arr base (hint + ofs) | return none
      if !more then break
      lastofs := ofs
      ofs := 2 * ofs + 1
    g3 left key arr base n (hint + lastofs + 1) (hint + min ofs maxofs)
  else
    let maxofs := hint + 1
    for _ in [0:n] do
      if ofs ≥ maxofs then break
      let some found ← beyond' left key arr base (hint - ofs) | return none
      if found then break
      lastofs := ofs
      ofs := 2 * ofs + 1
    g3 left key arr base n (hint + 1 - min ofs maxofs) (hint - lastofs)) := rfl
section
variable {prog : Program} {w : World} {A : Around} {E : Value → Shared → Prop} {s : Shared}
theorem wpS_gallop {left : Bool} {key : Keyed} {arr : Array Keyed} {base n hint : Nat} {Bd : Nat → Bool} {G : SortSt → Prop} {st : SortSt} {Q : Option Nat → SortSt → Prop}
    (hb : ∀ i, i < n → ∀ (st : SortSt) (Q : Option Bool → SortSt → Prop), G st → Q (some (Bd i)) st → wpS (model prog w) A E s (beyond' left key arr base i) Q st) (g : G st) (hh : hint < n) (mono : ∀ i j, i ≤ j → j < n → Bd j = true → Bd i = true)
    (h : ∀ k, k ≤ n → (∀ i, i < k → Bd i = true) → (∀ i, k ≤ i → i < n → Bd i = false) → Q (some k) st) : wpS (model prog w) A E s (gallop' left key arr base n hint) Q st := by
  rw [gallop'_eq]
  have third : ∀ lo hi, lo ≤ hi → hi ≤ n → (∀ i, i < lo → Bd i = true) → (∀ i, hi ≤ i → i < n → Bd i = false) → wpS (model prog w) A E s (g3 left key arr base n lo hi) Q st := fun lo hi h1 h2 h3 h4 => by
    unfold g3
    refine wpS_bind (wpS_mono (wpS_forRange (I := fun x c st' => ∃ lo hi, c = (none, lo, hi) ∧ st' = st ∧ lo ≤ hi ∧ hi ≤ n ∧ hi - lo + x ≤ n ∧ (∀ i, i < lo → Bd i = true) ∧ ∀ i, hi ≤ i → i < n → Bd i = false)
      (Q := fun c st' => ∃ k, c = (none, k, k) ∧ st' = st ∧ k ≤ n ∧ (∀ i, i < k → Bd i = true) ∧ ∀ i, k ≤ i → i < n → Bd i = false) ?_ ?_ ⟨lo, hi, rfl, rfl, h1, h2, by omega, h3, h4⟩) ?_)
    · rintro x c st' _ hx ⟨lo, hi, rfl, rfl, h1, h2, h5, h3, h4⟩
      dsimp only
      split
      · rename_i c
        have : lo = hi := by omega
        subst this
        exact wpS_pure ⟨lo, rfl, rfl, h2, h3, h4⟩
      · rename_i c
        refine wpS_bind (hb _ (by omega) st' _ g ?_)
        dsimp only
        split
        · rename_i d
          exact wpS_pure ⟨_, hi, rfl, rfl, by omega, h2, by omega, fun i hi' => mono i _ (by omega) (by omega) d, h4⟩
        · rename_i d
          have d' : Bd (lo + (hi - lo) / 2) = false := by simpa using d
          refine wpS_pure ⟨lo, _, rfl, rfl, by omega, by omega, by omega, h3, fun i hi' hin => ?_⟩
          cases z : Bd i with
          | false => rfl
          | true => rw [mono _ i hi' hin z] at d'; cases d'
    · rintro c st' ⟨lo, hi, rfl, rfl, h1, h2, h5, h3, h4⟩
      have : lo = hi := by omega
      subst this
      exact ⟨lo, rfl, rfl, h2, h3, h4⟩
    · rintro c st' ⟨k, rfl, rfl, h1, h2, h3⟩
      exact wpS_pure (h k h1 h2 h3)
  refine wpS_bind (hb hint hh st _ g ?_)
  dsimp only
  split
  · rename_i c0
    refine wpS_bind (wpS_mono (wpS_forRange (I := fun x c st' => ∃ la of, c = (none, la, of) ∧ st' = st ∧ la < of ∧ hint + la < n ∧ Bd (hint + la) = true ∧ x < of)
      (Q := fun c st' => ∃ la of, c = (none, la, of) ∧ st' = st ∧ la < of ∧ hint + la < n ∧ Bd (hint + la) = true ∧ (n - hint ≤ of ∨ (hint + of < n ∧ Bd (hint + of) = false))) ?_ ?_ ⟨0, 1, rfl, rfl, by omega, by omega, c0, by omega⟩) ?_)
    · rintro x c st' _ hx ⟨la, of, rfl, rfl, h1, h2, h3, h4⟩
      dsimp only
      split
      · rename_i c
        exact wpS_pure ⟨la, of, rfl, rfl, h1, h2, h3, .inl c⟩
      · rename_i c
        refine wpS_bind (hb _ (by omega) st' _ g ?_)
        dsimp only
        split
        · rename_i d
          exact wpS_pure ⟨la, of, rfl, rfl, h1, h2, h3, .inr ⟨by omega, by simpa using d⟩⟩
        · rename_i d
          exact wpS_pure ⟨of, 2 * of + 1, rfl, rfl, by omega, by omega, by simpa using d, by omega⟩
    · rintro c st' ⟨la, of, rfl, rfl, h1, h2, h3, h4⟩
      exact ⟨la, of, rfl, rfl, h1, h2, h3, .inl (by omega)⟩
    · rintro c st' ⟨la, of, rfl, rfl, h1, h2, h3, h4⟩
      dsimp only
      refine third (hint + la + 1) (hint + min of (n - hint)) ?_ (by omega) (fun i hi => mono i _ (by omega) h2 h3) fun i hi hin => ?_
      · rcases h4 with z | ⟨z, _⟩ <;> omega
      · rcases h4 with z | ⟨z1, z2⟩
        · omega
        · cases z : Bd i with
          | false => rfl
          | true => rw [mono _ i (by omega) hin z] at z2; cases z2
  · rename_i c0
    have c0' : Bd hint = false := by simpa using c0
    refine wpS_bind (wpS_mono (wpS_forRange (I := fun x c st' => ∃ la of, c = (none, la, of) ∧ st' = st ∧ la < of ∧ la ≤ hint ∧ Bd (hint - la) = false ∧ x < of)
      (Q := fun c st' => ∃ la of, c = (none, la, of) ∧ st' = st ∧ la < of ∧ la ≤ hint ∧ Bd (hint - la) = false ∧ (hint + 1 ≤ of ∨ (of ≤ hint ∧ Bd (hint - of) = true))) ?_ ?_ ⟨0, 1, rfl, rfl, by omega, by omega, c0', by omega⟩) ?_)
    · rintro x c st' _ hx ⟨la, of, rfl, rfl, h1, h2, h3, h4⟩
      dsimp only
      split
      · rename_i c
        exact wpS_pure ⟨la, of, rfl, rfl, h1, h2, h3, .inl c⟩
      · rename_i c
        refine wpS_bind (hb _ (by omega) st' _ g ?_)
        dsimp only
        split
        · rename_i d
          exact wpS_pure ⟨la, of, rfl, rfl, h1, h2, h3, .inr ⟨by omega, by simpa using d⟩⟩
        · rename_i d
          exact wpS_pure ⟨of, 2 * of + 1, rfl, rfl, by omega, by omega, by simpa using d, by omega⟩
    · rintro c st' ⟨la, of, rfl, rfl, h1, h2, h3, h4⟩
      exact ⟨la, of, rfl, rfl, h1, h2, h3, .inl (by omega)⟩
    · rintro c st' ⟨la, of, rfl, rfl, h1, h2, h3, h4⟩
      dsimp only
      refine third (hint + 1 - min of (hint + 1)) (hint - la) ?_ (by omega) (fun i hi => ?_) fun i hi hin => ?_
      · rcases h4 with z | ⟨z, _⟩ <;> omega
      · rcases h4 with z | ⟨z1, z2⟩
        · omega
        · exact mono i _ (by omega) (by omega) z2
      · cases z : Bd i with
        | false => rfl
        | true => rw [mono _ i hi hin z] at h3; cases h3
end
end L2
namespace L2
open PySem PySem.Spec PyProof.Rows
def setMinGallop' : Nat → StateT SortSt Sem Unit := sortPriv% PySem.Builtin.setMinGallop
def mergeLo' : Array Keyed → Array Keyed → StateT SortSt Sem (Array Keyed) := sortPriv% PySem.Builtin.mergeLo
def dnA (a b out : Array Keyed) (ia ib : Nat) : Array Keyed := out ++ a.extract ia a.size ++ b.extract ib b.size
def lsA (a b out : Array Keyed) (ia ib : Nat) : Array Keyed := out ++ b.extract ib b.size ++ a.extract ia a.size
theorem mergeLo'_eq (a b : Array Keyed) : mergeLo' a b = (do
  rule "list.sort.merge-lo"
  let total := a.size + b.size
  let mut out : Array Keyed := #[← elem' b 0]
  let mut ia := 0
  let mut ib := 1
  if ib == b.size then return dnA a b out ia ib
  if ia + 1 == a.size then return lsA a b out ia ib
  let mut minGallop := gallopOf (← get)
  for _ in [0:total] do
    let mut acount := 0
    let mut bcount := 0
    for _ in [0:total] do
      let some bWins ← lt' (← elem' b ib) (← elem' a ia) | return dnA a b out ia ib
      if bWins then
        out := out.push (← elem' b ib); ib := ib + 1; bcount := bcount + 1; acount := 0
        if ib == b.size then return dnA a b out ia ib
        if bcount ≥ minGallop then break
      else
        out := out.push (← elem' a ia); ia := ia + 1; acount := acount + 1; bcount := 0
        if ia + 1 == a.size then return lsA a b out ia ib
        if acount ≥ minGallop then break
    rule "list.sort.gallop"
    minGallop := minGallop + 1
    for _ in [0:total] do
      if minGallop > 1 then minGallop := minGallop - 1
      setMinGallop' minGallop
      let some k ← gallop' false (← elem' b ib) a ia (a.size - ia) 0 | return dnA a b out ia ib
      acount := k
      if k > 0 then
        out := out ++ a.extract ia (ia + k); ia := ia + k
        if ia + 1 == a.size then return lsA a b out ia ib
        if ia == a.size then return dnA a b out ia ib
      out := out.push (← elem' b ib); ib := ib + 1
      if ib == b.size then return dnA a b out ia ib
      let some k ← gallop' true (← elem' a ia) b ib (b.size - ib) 0 | return dnA a b out ia ib
      bcount := k
      if k > 0 then
        out := out ++ b.extract ib (ib + k); ib := ib + k
        if ib == b.size then return dnA a b out ia ib
      out := out.push (← elem' a ia); ia := ia + 1
      if ia + 1 == a.size then return lsA a b out ia ib
      if acount < 7 && bcount < 7 then break
    minGallop := minGallop + 1
    setMinGallop' minGallop
  unsupported "internal:list.sort.merge-bound") := rfl
def Srd (rk : Keyed → Int) (l : List Keyed) : Prop := l.Pairwise fun x y => rk x ≤ rk y
def Dn (rk : Keyed → Int) (all l : List Keyed) : Prop := l.Perm all ∧ Srd rk l
structure MI (rk : Keyed → Int) (all ra rb o : List Keyed) : Prop where
  perm : (o ++ (ra ++ rb)).Perm all
  so : Srd rk o
  sa : Srd rk ra
  sb : Srd rk rb
  la : ∀ x ∈ o, ∀ y ∈ ra, rk x ≤ rk y
  lb : ∀ x ∈ o, ∀ y ∈ rb, rk x ≤ rk y
section
variable {rk : Keyed → Int} {all ra rb o xs : List Keyed}
theorem MI.symm (h : MI rk all ra rb o) : MI rk all rb ra o := ⟨(List.perm_append_comm.append_left o).trans h.perm, h.so, h.sb, h.sa, h.lb, h.la⟩
theorem MI.as (h : MI rk all (xs ++ ra) rb o) (c : ∀ x ∈ xs, ∀ y ∈ rb, rk x ≤ rk y) : MI rk all ra rb (o ++ xs) := by
  have p := List.pairwise_append.mp h.sa
  refine ⟨by simpa [List.append_assoc] using h.perm, List.pairwise_append.mpr ⟨h.so, p.1, fun x hx y hy => h.la x hx y (List.mem_append_left _ hy)⟩, p.2.1, h.sb, fun x hx y hy => ?_, fun x hx y hy => ?_⟩
  · rcases List.mem_append.mp hx with z | z
    · exact h.la x z y (List.mem_append_right _ hy)
    · exact p.2.2 x z y hy
  · rcases List.mem_append.mp hx with z | z
    · exact h.lb x z y hy
    · exact c x z y hy
theorem MI.bs (h : MI rk all ra (xs ++ rb) o) (c : ∀ x ∈ xs, ∀ y ∈ ra, rk x ≤ rk y) : MI rk all ra rb (o ++ xs) := (h.symm.as c).symm
theorem MI.fin (h : MI rk all ra rb o) (c : ∀ x ∈ ra, ∀ y ∈ rb, rk x ≤ rk y) : Dn rk all (o ++ (ra ++ rb)) := by
  refine ⟨h.perm, List.pairwise_append.mpr ⟨h.so, List.pairwise_append.mpr ⟨h.sa, h.sb, c⟩, fun x hx y hy => ?_⟩⟩
  rcases List.mem_append.mp hy with z | z
  · exact h.la x hx y z
  · exact h.lb x hx y z
theorem MI.len (h : MI rk all ra rb o) : o.length + (ra.length + rb.length) = all.length := by
  have := h.perm.length_eq
  simpa using this
theorem srd_head {x : Keyed} {l : List Keyed} (h : Srd rk (x :: l)) : ∀ y ∈ x :: l, rk x ≤ rk y := fun y hy => by
  rcases List.mem_cons.mp hy with z | z
  · rw [z]; exact Int.le_refl _
  · exact (List.pairwise_cons.mp h).1 y z
end
def Gal (st st' : SortSt) : Prop := kindOf st' = kindOf st ∧ arrOf st' = arrOf st ∧ pendingOf st' = pendingOf st ∧ failedOf st' = failedOf st
theorem Gal.refl (st : SortSt) : Gal st st := ⟨rfl, rfl, rfl, rfl⟩
theorem Gal.trans {a b c : SortSt} (h : Gal a b) (k : Gal b c) : Gal a c := ⟨k.1.trans h.1, k.2.1.trans h.2.1, k.2.2.1.trans h.2.2.1, k.2.2.2.trans h.2.2.2⟩
theorem ext_list (a : Array Keyed) (i j : Nat) : (a.extract i j).toList = (a.toList.drop i).take (j - i) := by
  rw [Array.toList_extract]
theorem ext_end (a : Array Keyed) (i : Nat) : (a.extract i a.size).toList = a.toList.drop i := by
  rw [ext_list, List.take_of_length_le (by simp)]
theorem dnA_list (a b out : Array Keyed) (ia ib : Nat) : (dnA a b out ia ib).toList = out.toList ++ (a.toList.drop ia ++ b.toList.drop ib) := by
  unfold dnA
  rw [Array.toList_append, Array.toList_append, ext_end, ext_end, List.append_assoc]
theorem lsA_list (a b out : Array Keyed) (ia ib : Nat) : (lsA a b out ia ib).toList = out.toList ++ (b.toList.drop ib ++ a.toList.drop ia) := by
  unfold lsA
  rw [Array.toList_append, Array.toList_append, ext_end, ext_end, List.append_assoc]
section
variable {prog : Program} {w : World} {A : Around} {E : Value → Shared → Prop} {s : Shared} {rk : Keyed → Int} {kd : SortKind} {D : Keyed → Prop}
def Asks (prog : Program) (w : World) (A : Around) (E : Value → Shared → Prop) (s : Shared) (rk : Keyed → Int) (kd : SortKind) (D : Keyed → Prop) : Prop :=
  ∀ x y, D x → D y → ∀ (st : SortSt) (Q : Option Bool → SortSt → Prop), kindOf st = kd → Q (some (decide (rk x < rk y))) st → wpS (model prog w) A E s (lt' x y) Q st
theorem wpS_elem {arr : Array Keyed} {i : Nat} {p : Keyed} {Q : Keyed → SortSt → Prop} {st : SortSt} (e : arr[i]? = some p) (h : Q p st) : wpS (model prog w) A E s (elem' arr i) Q st := by
  rw [elem'_eq, e]; exact wpS_pure h
def gP (rk : Keyed → Int) (left : Bool) (key x : Keyed) : Bool := if left then decide (rk x < rk key) else !decide (rk key < rk x)
theorem wpS_beyond (ak : Asks prog w A E s rk kd D) {left : Bool} {key x : Keyed} {arr : Array Keyed} {base i : Nat} {Q : Option Bool → SortSt → Prop} {st : SortSt} (hk : kindOf st = kd) (dk : D key) (dx : D x) (e : arr[base + i]? = some x)
    (h : Q (some (gP rk left key x)) st) : wpS (model prog w) A E s (beyond' left key arr base i) Q st := by
  unfold beyond'
  refine wpS_bind (wpS_elem e ?_)
  cases left with
  | true => exact ak x key dx dk st Q hk h
  | false => exact wpS_bind (ak key x dk dx st _ hk (wpS_pure h))
theorem wpS_gal (ak : Asks prog w A E s rk kd D) {left : Bool} {key : Keyed} {arr : Array Keyed} {base n hint : Nat} {l : List Keyed} {Q : Option Nat → SortSt → Prop} {st : SortSt} (hk : kindOf st = kd) (dk : D key) (hl : (arr.toList.drop base).take n = l) (hn : l.length = n)
    (dl : ∀ x ∈ l, D x) (sl : Srd rk l) (hh : hint < n) (h : ∀ l1 l2, l = l1 ++ l2 → (∀ x ∈ l1, gP rk left key x = true) → (∀ x ∈ l2, gP rk left key x = false) → Q (some l1.length) st) :
    wpS (model prog w) A E s (gallop' left key arr base n hint) Q st := by
  have at_ : ∀ i, (hi : i < n) → arr[base + i]? = some (l[i]'(by omega)) := fun i hi => by
    subst hl
    rw [← Array.getElem?_toList]
    rw [List.getElem_take, List.getElem_drop, List.getElem?_eq_getElem]
  refine wpS_gallop (Bd := fun i => if c : i < l.length then gP rk left key (l[i]'c) else false) (G := fun st => kindOf st = kd) (fun i hi st Q g q => ?_) hk hh (fun i j hij hj q => ?_) fun k hk1 h1 h2 => ?_
  · refine wpS_beyond ak g dk (dl _ (List.getElem_mem (by omega))) (at_ i hi) ?_
    rw [dif_pos (by omega)] at q
    exact q
  · rw [dif_pos (by omega)] at q ⊢
    by_cases e : i = j
    · subst e; exact q
    · have := List.pairwise_iff_getElem.mp sl i j (by omega) (by omega) (by omega)
      unfold gP at q ⊢
      cases left
      · simp at q ⊢; omega
      · simp at q ⊢; omega
  · have e := h (l.take k) (l.drop k) (List.take_append_drop k l).symm (fun x hx => ?_) fun x hx => ?_
    · rw [List.length_take, Nat.min_eq_left (by omega)] at e
      exact e
    · obtain ⟨i, hi, rfl⟩ := List.mem_iff_getElem.mp hx
      rw [List.length_take] at hi
      have := h1 i (by omega)
      rw [dif_pos (by omega)] at this
      rw [List.getElem_take]; exact this
    · obtain ⟨i, hi, rfl⟩ := List.mem_iff_getElem.mp hx
      rw [List.length_drop] at hi
      have := h2 (k + i) (by omega) (by omega)
      rw [dif_pos (by omega)] at this
      rw [List.getElem_drop]; exact this
theorem setMinGallop'_eq (g : Nat) : setMinGallop' g = modify fun st => SortSt.mk' (kindOf st) (arrOf st) (pendingOf st) g (failedOf st) := rfl
theorem wpS_setG {g : Nat} {st : SortSt} {Q : Unit → SortSt → Prop} (h : ∀ st', Gal st st' → Q () st') : wpS (model prog w) A E s (setMinGallop' g) Q st := by
  rw [setMinGallop'_eq]
  exact wpS_modify (h _ ⟨rfl, rfl, rfl, rfl⟩)
abbrev G7 := ForInStep (Option (Array Keyed) × Array Keyed × Nat × Nat × Nat × Nat × Nat)
def gl4 (a b : Array Keyed) (ac bc mg : Nat) (out : Array Keyed) (ia ib : Nat) : StateT SortSt Sem G7 := do
  let x ← elem' a ia
  if (ia + 1 + 1 == a.size) = true then pure (.done (some (lsA a b (out.push x) (ia + 1) ib), out.push x, ia + 1, ib, mg, ac, bc))
  else if (decide (ac < 7) && decide (bc < 7)) = true then pure (.done (none, out.push x, ia + 1, ib, mg, ac, bc))
  else pure (.yield (none, out.push x, ia + 1, ib, mg, ac, bc))
def gl3 (a b : Array Keyed) (ac mg : Nat) (out : Array Keyed) (ia ib bc0 : Nat) : StateT SortSt Sem G7 := do
  let y ← elem' b ib
  if (ib + 1 == b.size) = true then pure (.done (some (dnA a b (out.push y) ia (ib + 1)), out.push y, ia, ib + 1, mg, ac, bc0))
  else
    let x ← elem' a ia
    let some k ← gallop' true x b (ib + 1) (b.size - (ib + 1)) 0 | pure (.done (some (dnA a b (out.push y) ia (ib + 1)), out.push y, ia, ib + 1, mg, ac, bc0))
    if k > 0 then
        if (ib + 1 + k == b.size) = true then pure (.done (some (dnA a b (out.push y ++ b.extract (ib + 1) (ib + 1 + k)) ia (ib + 1 + k)), out.push y ++ b.extract (ib + 1) (ib + 1 + k), ia, ib + 1 + k, mg, ac, k))
        else gl4 a b ac k mg (out.push y ++ b.extract (ib + 1) (ib + 1 + k)) ia (ib + 1 + k)
    else gl4 a b ac k mg (out.push y) ia (ib + 1)
def gl2 (a b : Array Keyed) (mg : Nat) (out : Array Keyed) (ia ib ac0 bc0 : Nat) : StateT SortSt Sem G7 := do
  setMinGallop' mg
  let y ← elem' b ib
  let some k ← gallop' false y a ia (a.size - ia) 0 | pure (.done (some (dnA a b out ia ib), out, ia, ib, mg, ac0, bc0))
  if k > 0 then
      if (ia + k + 1 == a.size) = true then pure (.done (some (lsA a b (out ++ a.extract ia (ia + k)) (ia + k) ib), out ++ a.extract ia (ia + k), ia + k, ib, mg, k, bc0))
      else if (ia + k == a.size) = true then pure (.done (some (dnA a b (out ++ a.extract ia (ia + k)) (ia + k) ib), out ++ a.extract ia (ia + k), ia + k, ib, mg, k, bc0))
      else gl3 a b k mg (out ++ a.extract ia (ia + k)) (ia + k) ib bc0
  else gl3 a b k mg out ia ib bc0
def glT (a b : Array Keyed) (c : Option (Array Keyed) × Array Keyed × Nat × Nat × Nat × Nat × Nat) : StateT SortSt Sem G7 :=
  if c.2.2.2.2.1 > 1 then gl2 a b (c.2.2.2.2.1 - 1) c.2.1 c.2.2.1 c.2.2.2.1 c.2.2.2.2.2.1 c.2.2.2.2.2.2 else gl2 a b c.2.2.2.2.1 c.2.1 c.2.2.1 c.2.2.2.1 c.2.2.2.2.2.1 c.2.2.2.2.2.2
theorem arr_at (a : Array Keyed) {i : Nat} (h : i < a.size) : ∃ x, a[i]? = some x ∧ x ∈ a.toList ∧ a.toList.drop i = x :: a.toList.drop (i + 1) := by
  refine ⟨a[i], by simp [h], by simp, ?_⟩
  rw [List.drop_eq_getElem_cons (by simpa using h)]
  simp
structure Lo (rk : Keyed → Int) (a b out : Array Keyed) (ia ib : Nat) : Prop where
  mi : MI rk (a.toList ++ b.toList) (a.toList.drop ia) (b.toList.drop ib) out.toList
  ha : ia + 1 < a.size
  hb : ib < b.size
def LoT (rk : Keyed → Int) (a b : Array Keyed) (st : SortSt) (r : Array Keyed) (st' : SortSt) : Prop := Gal st st' ∧ Dn rk (a.toList ++ b.toList) r.toList
theorem Lo.dn {a b out : Array Keyed} {ia ib : Nat} (m : MI rk (a.toList ++ b.toList) (a.toList.drop ia) (b.toList.drop ib) out.toList) (h : a.size ≤ ia ∨ b.size ≤ ib) : Dn rk (a.toList ++ b.toList) (dnA a b out ia ib).toList := by
  rw [dnA_list]
  refine m.fin fun x hx y hy => ?_
  rcases h with h | h
  · rw [List.drop_eq_nil_of_le (by simpa using h)] at hx; cases hx
  · rw [List.drop_eq_nil_of_le (by simpa using h)] at hy; cases hy
theorem Lo.ls {a b out : Array Keyed} {ia ib : Nat} (m : MI rk (a.toList ++ b.toList) (a.toList.drop ia) (b.toList.drop ib) out.toList) (h : ia + 1 = a.size) (hi : ∀ x ∈ a.toList.drop (a.size - 1), ∀ y ∈ b.toList, rk y ≤ rk x) : Dn rk (a.toList ++ b.toList) (lsA a b out ia ib).toList := by
  rw [lsA_list]
  refine m.symm.fin fun y hy x hx => hi x ?_ y (List.mem_of_mem_drop hy)
  rw [show a.size - 1 = ia by omega]; exact hx
theorem wp_gl4 {a b out : Array Keyed} {ac bc mg ia ib : Nat} {st st0 : SortSt} {Q : G7 → SortSt → Prop} (L : Lo rk a b out ia ib) (lt : ∀ x, a[ia]? = some x → ∀ y ∈ b.toList.drop ib, rk x ≤ rk y) (hi : ∀ x ∈ a.toList.drop (a.size - 1), ∀ y ∈ b.toList, rk y ≤ rk x) (g : Gal st0 st)
    (hd : ∀ r c, LoT rk a b st0 r st → Q (.done (some r, c)) st) (hn : ∀ out' ia' mg ac bc, Lo rk a b out' ia' ib → out.size < out'.size → Q (.done (none, out', ia', ib, mg, ac, bc)) st ∧ Q (.yield (none, out', ia', ib, mg, ac, bc)) st) :
    wpS (model prog w) A E s (gl4 a b ac bc mg out ia ib) Q st := by
  obtain ⟨x, e, ex, ed⟩ := arr_at a (i := ia) (by have := L.ha; omega)
  have m : MI rk (a.toList ++ b.toList) (a.toList.drop (ia + 1)) (b.toList.drop ib) (out.push x).toList := by
    have m := L.mi
    rw [ed] at m
    rw [Array.toList_push]
    exact MI.as (xs := [x]) m fun z hz y hy => by
      rw [List.mem_singleton.mp hz]
      exact lt x e y hy
  unfold gl4
  refine wpS_bind (wpS_elem e ?_)
  have h1 := L.ha
  by_cases c : (ia + 1 + 1 == a.size) = true
  · rw [if_pos c]
    exact wpS_pure (hd _ _ ⟨g, Lo.ls m (by simpa using c) hi⟩)
  · rw [if_neg c]
    have c' : ia + 1 + 1 ≠ a.size := by simpa using c
    have := hn (out.push x) (ia + 1) mg ac bc ⟨m, by omega, L.hb⟩ (by simp)
    split
    · exact wpS_pure this.1
    · exact wpS_pure this.2
theorem beq_ge {i n : Nat} (h : (i == n) = true) : n ≤ i := Nat.le_of_eq (eq_of_beq h).symm
theorem ext_app {b : Array Keyed} {i : Nat} {l1 l2 : List Keyed} (e : b.toList.drop i = l1 ++ l2) : (b.extract i (i + l1.length)).toList = l1 ∧ b.toList.drop (i + l1.length) = l2 := by
  refine ⟨?_, ?_⟩
  · rw [ext_list, e, show i + l1.length - i = l1.length by omega, List.take_left']
    rfl
  · rw [← List.drop_drop, e, List.drop_left']
    rfl
theorem wp_gl3 (ak : Asks prog w A E s rk kd D) {a b out : Array Keyed} {ac mg bc0 ia ib : Nat} {st st0 : SortSt} {Q : G7 → SortSt → Prop} (hk : kindOf st = kd) (da : ∀ x ∈ a.toList, D x) (db : ∀ x ∈ b.toList, D x) (L : Lo rk a b out ia ib) (lt : ∀ y, b[ib]? = some y → ∀ x ∈ a.toList.drop ia, rk y ≤ rk x) (hi : ∀ x ∈ a.toList.drop (a.size - 1), ∀ y ∈ b.toList, rk y ≤ rk x) (g : Gal st0 st)
    (hd : ∀ r c, LoT rk a b st0 r st → Q (.done (some r, c)) st) (hn : ∀ out' ia' ib' mg ac bc, Lo rk a b out' ia' ib' → out.size < out'.size → Q (.done (none, out', ia', ib', mg, ac, bc)) st ∧ Q (.yield (none, out', ia', ib', mg, ac, bc)) st) :
    wpS (model prog w) A E s (gl3 a b ac mg out ia ib bc0) Q st := by
  have h1 := L.ha
  have h2 := L.hb
  obtain ⟨y, e, ey, ed⟩ := arr_at b (i := ib) h2
  obtain ⟨x, f, fx, fd⟩ := arr_at a (i := ia) (by omega)
  have m : MI rk (a.toList ++ b.toList) (a.toList.drop ia) (b.toList.drop (ib + 1)) (out.push y).toList := by
    have m := L.mi
    rw [ed] at m
    rw [Array.toList_push]
    exact MI.bs (xs := [y]) m fun z hz x hx => by
      rw [List.mem_singleton.mp hz]
      exact lt y e x hx
  have sh := srd_head (fd ▸ m.sa)
  unfold gl3
  refine wpS_bind (wpS_elem e ?_)
  by_cases c : (ib + 1 == b.size) = true
  · rw [if_pos c]
    exact wpS_pure (hd _ _ ⟨g, Lo.dn m (.inr (beq_ge c))⟩)
  · rw [if_neg c]
    have c' : ib + 1 ≠ b.size := by simpa using c
    refine wpS_bind (wpS_elem f ?_)
    refine wpS_bind (wpS_gal ak (l := b.toList.drop (ib + 1)) hk (da x fx) (List.take_of_length_le (by simp)) (by simp) (fun z hz => db z (List.mem_of_mem_drop hz)) m.sb (by omega) fun l1 l2 el p1 p2 => ?_)
    have q1 : ∀ z ∈ l1, rk z < rk x := fun z hz => by simpa [gP] using p1 z hz
    have q2 : ∀ z ∈ l2, rk x ≤ rk z := fun z hz => by
      have := p2 z hz
      simp [gP] at this
      exact this
    have X := ext_app el
    dsimp only
    by_cases k0 : l1.length > 0
    · rw [if_pos k0]
      have m2 : MI rk (a.toList ++ b.toList) (a.toList.drop ia) (b.toList.drop (ib + 1 + l1.length)) (out.push y ++ b.extract (ib + 1) (ib + 1 + l1.length)).toList := by
        rw [Array.toList_append, X.1, X.2]
        rw [el] at m
        exact m.bs fun z hz x' hx' => by
          have a1 := q1 z hz
          have a2 := sh x' (fd ▸ hx')
          omega
      by_cases d : (ib + 1 + l1.length == b.size) = true
      · rw [if_pos d]
        exact wpS_pure (hd _ _ ⟨g, Lo.dn m2 (.inr (beq_ge d))⟩)
      · rw [if_neg d]
        have d' : ib + 1 + l1.length ≠ b.size := by simpa using d
        have ll : (b.toList.drop (ib + 1)).length = l1.length + l2.length := by rw [el]; simp
        rw [List.length_drop] at ll
        have ll' : b.size - (ib + 1) = l1.length + l2.length := by simpa using ll
        refine wp_gl4 ⟨m2, h1, by omega⟩ (fun z hz y hy => ?_) hi g hd fun o i mg ac bc L' hs => hn o i _ mg ac bc L' ?_
        · rw [X.2] at hy
          rw [f] at hz
          cases hz
          exact q2 y hy
        · simp at hs; omega
    · rw [if_neg k0]
      have n1 : l1 = [] := List.length_eq_zero_iff.mp (by omega)
      subst n1
      refine wp_gl4 ⟨m, h1, by omega⟩ (fun z hz y hy => ?_) hi g hd fun o i mg ac bc L' hs => hn o i _ mg ac bc L' ?_
      · rw [el] at hy
        rw [f] at hz
        cases hz
        exact q2 y hy
      · simp at hs; omega
theorem wp_gl2 (ak : Asks prog w A E s rk kd D) {a b out : Array Keyed} {mg ac0 bc0 ia ib : Nat} {st st0 : SortSt} {Q : G7 → SortSt → Prop} (hk : kindOf st0 = kd) (da : ∀ x ∈ a.toList, D x) (db : ∀ x ∈ b.toList, D x) (L : Lo rk a b out ia ib) (hi : ∀ x ∈ a.toList.drop (a.size - 1), ∀ y ∈ b.toList, rk y ≤ rk x) (g : Gal st0 st)
    (hd : ∀ r c st, LoT rk a b st0 r st → Q (.done (some r, c)) st) (hn : ∀ out' ia' ib' mg ac bc st, Gal st0 st → Lo rk a b out' ia' ib' → out.size < out'.size → Q (.done (none, out', ia', ib', mg, ac, bc)) st ∧ Q (.yield (none, out', ia', ib', mg, ac, bc)) st) :
    wpS (model prog w) A E s (gl2 a b mg out ia ib ac0 bc0) Q st := by
  have h1 := L.ha
  have h2 := L.hb
  have m := L.mi
  obtain ⟨y, e, ey, ed⟩ := arr_at b (i := ib) h2
  have sh := srd_head (ed ▸ m.sb)
  unfold gl2
  refine wpS_bind (wpS_setG fun st1 g1 => ?_)
  have g' := g.trans g1
  refine wpS_bind (wpS_elem e ?_)
  refine wpS_bind (wpS_gal ak (l := a.toList.drop ia) (g'.1.trans hk) (db y ey) (List.take_of_length_le (by simp)) (by simp) (fun z hz => da z (List.mem_of_mem_drop hz)) m.sa (by omega) fun l1 l2 el p1 p2 => ?_)
  have q1 : ∀ z ∈ l1, rk z ≤ rk y := fun z hz => by simpa [gP] using p1 z hz
  have q2 : ∀ z ∈ l2, rk y < rk z := fun z hz => by simpa [gP] using p2 z hz
  have X := ext_app el
  dsimp only
  by_cases k0 : l1.length > 0
  · rw [if_pos k0]
    have m2 : MI rk (a.toList ++ b.toList) (a.toList.drop (ia + l1.length)) (b.toList.drop ib) (out ++ a.extract ia (ia + l1.length)).toList := by
      rw [Array.toList_append, X.1, X.2]
      rw [el] at m
      exact m.as fun z hz x' hx' => by
        have a1 := q1 z hz
        have a2 := sh x' (ed ▸ hx')
        omega
    by_cases d : (ia + l1.length + 1 == a.size) = true
    · rw [if_pos d]
      exact wpS_pure (hd _ _ _ ⟨g', Lo.ls m2 (by simpa using d) hi⟩)
    · rw [if_neg d]
      by_cases d2 : (ia + l1.length == a.size) = true
      · rw [if_pos d2]
        exact wpS_pure (hd _ _ _ ⟨g', Lo.dn m2 (.inl (beq_ge d2))⟩)
      · rw [if_neg d2]
        have d' : ia + l1.length + 1 ≠ a.size := by simpa using d
        have d2' : ia + l1.length ≠ a.size := by simpa using d2
        have ll : (a.toList.drop ia).length = l1.length + l2.length := by rw [el]; simp
        rw [List.length_drop] at ll
        have ll' : a.size - ia = l1.length + l2.length := by simpa using ll
        refine wp_gl3 ak (g'.1.trans hk) da db ⟨m2, by omega, h2⟩ (fun z hz x hx => ?_) hi g' (fun r c => hd r c _) fun o i j mg ac bc L' hs => hn o i j mg ac bc _ g' L' ?_
        · rw [X.2] at hx
          rw [e] at hz
          cases hz
          exact Int.le_of_lt (q2 x hx)
        · simp at hs; omega
  · rw [if_neg k0]
    have n1 : l1 = [] := List.length_eq_zero_iff.mp (by omega)
    subst n1
    refine wp_gl3 ak (g'.1.trans hk) da db L (fun z hz x hx => ?_) hi g' (fun r c => hd r c _) fun o i j mg ac bc L' hs => hn o i j mg ac bc _ g' L' hs
    rw [el] at hx
    rw [e] at hz
    cases hz
    exact Int.le_of_lt (q2 x hx)
theorem wpS_mergeLo (ak : Asks prog w A E s rk kd D) {a b : Array Keyed} {st : SortSt} {Q : Array Keyed → SortSt → Prop} (hk : kindOf st = kd) (da : ∀ x ∈ a.toList, D x) (db : ∀ x ∈ b.toList, D x) (sa : Srd rk a.toList) (sb : Srd rk b.toList) (h1 : 1 ≤ a.size) (h2 : 1 ≤ b.size)
    (lo : ∀ y ∈ b.toList.take 1, ∀ x ∈ a.toList, rk y ≤ rk x) (hi : ∀ x ∈ a.toList.drop (a.size - 1), ∀ y ∈ b.toList, rk y ≤ rk x) (h : ∀ r st', Gal st st' → Dn rk (a.toList ++ b.toList) r.toList → Q r st') : wpS (model prog w) A E s (mergeLo' a b) Q st := by
  rw [mergeLo'_eq]
  refine wpS_bind (wpS_lift (wpAny_rule ⟨rfl, ?_⟩))
  obtain ⟨y, e, ey, ed⟩ := arr_at b (i := 0) h2
  refine wpS_bind (wpS_elem e ?_)
  have m : MI rk (a.toList ++ b.toList) (a.toList.drop 0) (b.toList.drop (0 + 1)) (#[y] : Array Keyed).toList := by
    have m0 : MI rk (a.toList ++ b.toList) (a.toList.drop 0) (b.toList.drop 0) [] := ⟨by simp, List.Pairwise.nil, by simpa using sa, by simpa using sb, fun x hx => (by cases hx), fun x hx => (by cases hx)⟩
    rw [ed] at m0
    refine MI.bs (xs := [y]) m0 fun z hz x hx => ?_
    rw [List.mem_singleton.mp hz]
    refine lo y ?_ x (List.mem_of_mem_drop hx)
    rw [List.drop_zero] at ed
    rw [ed]
    exact List.mem_cons_self ..
  by_cases e1 : (1 == b.size) = true
  · rw [if_pos e1]
    exact wpS_pure (h _ _ (Gal.refl _) (Lo.dn m (.inr (beq_ge e1))))
  rw [if_neg e1]
  by_cases e2 : (0 + 1 == a.size) = true
  · rw [if_pos e2]
    exact wpS_pure (h _ _ (Gal.refl _) (Lo.ls m (by simpa using e2) hi))
  rw [if_neg e2]
  have e1' : 1 ≠ b.size := by simpa using e1
  have e2' : 0 + 1 ≠ a.size := by simpa using e2
  refine wpS_bind (wpS_get ?_)
  have tot : ∀ {o : Array Keyed} {i j : Nat}, Lo rk a b o i j → o.size + 3 ≤ a.size + b.size := fun {o i j} L => by
    have := L.mi.len
    have := L.ha
    have := L.hb
    simp at *
    omega
  refine wpS_bind (wpS_mono (wpS_forRange (I := fun x c st' => ∃ out ia ib mg, c = (none, out, ia, ib, mg) ∧ Lo rk a b out ia ib ∧ x + 1 ≤ out.size ∧ Gal st st')
    (Q := fun c st' => ∃ r c', c = (some r, c') ∧ LoT rk a b st r st') ?_ ?_ ⟨_, _, _, _, rfl, ⟨m, by omega, by omega⟩, by simp, Gal.refl _⟩) ?_)
  · rintro x c st1 _ hx ⟨out, ia, ib, mg, rfl, L, hs, g⟩
    refine wpS_bind (wpS_mono (wpS_forRange (I := fun y c st' => ∃ o ia ib ac bc, c = (none, o, ia, ib, ac, bc) ∧ Lo rk a b o ia ib ∧ out.size + y ≤ o.size ∧ Gal st st')
      (Q := fun c st' => (∃ r c', c = (some r, c') ∧ LoT rk a b st r st') ∨ ∃ o ia ib ac bc, c = (none, o, ia, ib, ac, bc) ∧ Lo rk a b o ia ib ∧ out.size < o.size ∧ Gal st st') ?_ ?_ ⟨_, _, _, _, _, rfl, L, Nat.le_refl _, g⟩) ?_)
    · rintro y c st2 _ hy ⟨o, ja, jb, ac, bc, rfl, L2, hs2, g2⟩
      have h1 := L2.ha
      have h2 := L2.hb
      have m := L2.mi
      obtain ⟨v, f, fv, fd⟩ := arr_at b (i := jb) h2
      obtain ⟨u, p, pu, pd⟩ := arr_at a (i := ja) (by omega)
      refine wpS_bind (wpS_elem f ?_)
      refine wpS_bind (wpS_elem p ?_)
      refine wpS_bind (ak v u (db v fv) (da u pu) _ _ (g2.1.trans hk) ?_)
      have sv := srd_head (fd ▸ m.sb)
      have su := srd_head (pd ▸ m.sa)
      by_cases c : rk v < rk u
      · rw [decide_eq_true c]
        have m2 : MI rk (a.toList ++ b.toList) (a.toList.drop ja) (b.toList.drop (jb + 1)) (o.push v).toList := by
          rw [fd] at m
          rw [Array.toList_push]
          refine MI.bs (xs := [v]) m fun z hz x hx => ?_
          rw [List.mem_singleton.mp hz]
          have := su x (pd ▸ hx)
          omega
        dsimp only
        rw [if_pos rfl]
        refine wpS_bind (wpS_elem f ?_)
        by_cases q : (jb + 1 == b.size) = true
        · rw [if_pos q]
          exact wpS_pure (.inl ⟨_, _, rfl, g2, Lo.dn m2 (.inr (beq_ge q))⟩)
        · rw [if_neg q]
          have q' : jb + 1 ≠ b.size := by simpa using q
          split
          · exact wpS_pure (.inr ⟨_, _, _, _, _, rfl, ⟨m2, h1, by omega⟩, by simp; omega, g2⟩)
          · exact wpS_pure ⟨_, _, _, _, _, rfl, ⟨m2, h1, by omega⟩, by simp; omega, g2⟩
      · rw [decide_eq_false c]
        have m2 : MI rk (a.toList ++ b.toList) (a.toList.drop (ja + 1)) (b.toList.drop jb) (o.push u).toList := by
          rw [pd] at m
          rw [Array.toList_push]
          refine MI.as (xs := [u]) m fun z hz x hx => ?_
          rw [List.mem_singleton.mp hz]
          have := sv x (fd ▸ hx)
          omega
        dsimp only
        rw [if_neg (by decide)]
        refine wpS_bind (wpS_elem p ?_)
        by_cases q : (ja + 1 + 1 == a.size) = true
        · rw [if_pos q]
          exact wpS_pure (.inl ⟨_, _, rfl, g2, Lo.ls m2 (eq_of_beq q) hi⟩)
        · rw [if_neg q]
          have q' : ja + 1 + 1 ≠ a.size := by simpa using q
          split
          · exact wpS_pure (.inr ⟨_, _, _, _, _, rfl, ⟨m2, by omega, h2⟩, by simp; omega, g2⟩)
          · exact wpS_pure ⟨_, _, _, _, _, rfl, ⟨m2, by omega, h2⟩, by simp; omega, g2⟩
    · rintro c st2 ⟨o, ja, jb, ac, bc, rfl, L2, hs2, g2⟩
      have := tot L2
      omega
    · rintro c st2 (⟨r, c', rfl, hr⟩ | ⟨o, ja, jb, ac, bc, rfl, L2, hs2, g2⟩)
      · exact wpS_pure ⟨r, _, rfl, hr⟩
      · refine wpS_bind (wpS_lift (wpAny_rule ⟨rfl, ?_⟩))
        refine wpS_bind (wpS_mono (wpS_forRange (I := fun y c st' => ∃ o' ia ib mg ac bc, c = (none, o', ia, ib, mg, ac, bc) ∧ Lo rk a b o' ia ib ∧ o.size + y ≤ o'.size ∧ Gal st st')
          (Q := fun c st' => (∃ r c', c = (some r, c') ∧ LoT rk a b st r st') ∨ ∃ o' ia ib mg ac bc, c = (none, o', ia, ib, mg, ac, bc) ∧ Lo rk a b o' ia ib ∧ o.size ≤ o'.size ∧ Gal st st') ?_ ?_ ⟨_, _, _, _, _, _, rfl, L2, Nat.le_refl _, g2⟩) ?_)
        · rintro y c st3 _ hy ⟨o', ka, kb, mg', ac', bc', rfl, L3, hs3, g3⟩
          have one : ∀ mg, wpS (model prog w) A E s (gl2 a b mg o' ka kb ac' bc') (fun r st' => match r with | .done c' => (∃ r c'', c' = (some r, c'') ∧ LoT rk a b st r st') ∨ ∃ o' ia ib mg ac bc, c' = (none, o', ia, ib, mg, ac, bc) ∧ Lo rk a b o' ia ib ∧ o.size ≤ o'.size ∧ Gal st st' | .yield c' => ∃ o' ia ib mg ac bc, c' = (none, o', ia, ib, mg, ac, bc) ∧ Lo rk a b o' ia ib ∧ o.size + (y + 1) ≤ o'.size ∧ Gal st st') st3 := fun mg =>
            wp_gl2 ak hk da db L3 hi g3 (fun r c st5 hr => .inl ⟨r, c, rfl, hr⟩) fun o6 i j mg6 ac6 bc6 st6 g6 L6 hs6 => ⟨.inr ⟨_, _, _, _, _, _, rfl, L6, by omega, g6⟩, ⟨_, _, _, _, _, _, rfl, L6, by omega, g6⟩⟩
          refine wpS_mono (m := glT a b (none, o', ka, kb, mg', ac', bc')) ?_ (fun r st' hr => ?_) (Q := fun r st' => match r with | .done c' => (∃ r c'', c' = (some r, c'') ∧ LoT rk a b st r st') ∨ ∃ o' ia ib mg ac bc, c' = (none, o', ia, ib, mg, ac, bc) ∧ Lo rk a b o' ia ib ∧ o.size ≤ o'.size ∧ Gal st st' | .yield c' => ∃ o' ia ib mg ac bc, c' = (none, o', ia, ib, mg, ac, bc) ∧ Lo rk a b o' ia ib ∧ o.size + (y + 1) ≤ o'.size ∧ Gal st st')
          · unfold glT
            split
            · exact one _
            · exact one _
          · cases r with
            | done c' => exact hr
            | yield c' => exact hr
        · rintro c st3 ⟨o', ka, kb, mg', ac', bc', rfl, L3, hs3, g3⟩
          have := tot L3
          omega
        · rintro c st3 (⟨r, c', rfl, hr⟩ | ⟨o', ka, kb, mg', ac', bc', rfl, L3, hs3, g3⟩)
          · exact wpS_pure ⟨r, _, rfl, hr⟩
          · refine wpS_bind (wpS_setG fun st4 g4 => ?_)
            exact wpS_pure ⟨_, _, _, _, rfl, L3, by show _ ≤ o'.size; omega, g3.trans g4⟩
  · rintro c st1 ⟨out, ia, ib, mg, rfl, L, hs, g⟩
    have := tot L
    omega
  · rintro c st1 ⟨r, c', rfl, hr⟩
    exact wpS_pure (h _ _ hr.1 hr.2)
end
end L2
namespace L2
open PySem PySem.Spec PyProof.Rows
def mergeHi' : Array Keyed → Array Keyed → StateT SortSt Sem (Array Keyed) := sortPriv% PySem.Builtin.mergeHi
def dnH (a b out : Array Keyed) (na nb : Nat) : Array Keyed := a.extract 0 na ++ b.extract 0 nb ++ out.reverse
def fsH (a b out : Array Keyed) (na nb : Nat) : Array Keyed := b.extract 0 nb ++ a.extract 0 na ++ out.reverse
theorem mergeHi'_eq (a b : Array Keyed) : mergeHi' a b = (do
  rule "list.sort.merge-hi"
  let total := a.size + b.size
  let mut na := a.size - 1
  let mut nb := b.size
  let mut out : Array Keyed := #[← elem' a na]
  if na == 0 then return dnH a b out na nb
  if nb == 1 then return fsH a b out na nb
  let mut minGallop := gallopOf (← get)
  for _ in [0:total] do
    let mut acount := 0
    let mut bcount := 0
    for _ in [0:total] do
      let some aWins ← lt' (← elem' b (nb - 1)) (← elem' a (na - 1)) | return dnH a b out na nb
      if aWins then
        na := na - 1; out := out.push (← elem' a na); acount := acount + 1; bcount := 0
        if na == 0 then return dnH a b out na nb
        if acount ≥ minGallop then break
      else
        nb := nb - 1; out := out.push (← elem' b nb); bcount := bcount + 1; acount := 0
        if nb == 1 then return fsH a b out na nb
        if bcount ≥ minGallop then break
    rule "list.sort.gallop"
    minGallop := minGallop + 1
    for _ in [0:total] do
      if minGallop > 1 then minGallop := minGallop - 1
      setMinGallop' minGallop
      let some at_ ← gallop' false (← elem' b (nb - 1)) a 0 na (na - 1) | return dnH a b out na nb
      let k := na - at_
      acount := k
      if k > 0 then
        out := out ++ (a.extract at_ na).reverse; na := at_
        if na == 0 then return dnH a b out na nb
      nb := nb - 1; out := out.push (← elem' b nb)
      if nb == 1 then return fsH a b out na nb
      let some at_ ← gallop' true (← elem' a (na - 1)) b 0 nb (nb - 1) | return dnH a b out na nb
      let k := nb - at_
      bcount := k
      if k > 0 then
        out := out ++ (b.extract at_ nb).reverse; nb := at_
        if nb == 1 then return fsH a b out na nb
        if nb == 0 then return dnH a b out na nb
      na := na - 1; out := out.push (← elem' a na)
      if na == 0 then return dnH a b out na nb
      if acount < 7 && bcount < 7 then break
    minGallop := minGallop + 1
    setMinGallop' minGallop
  unsupported "internal:list.sort.merge-bound") := rfl
def ng (rk : Keyed → Int) (x : Keyed) : Int := -rk x
theorem Dn.turn {rk : Keyed → Int} {all l : List Keyed} (h : Dn (ng rk) all l) : Dn rk all l.reverse := by
  refine ⟨(List.reverse_perm l).trans h.1, List.pairwise_reverse.mpr (h.2.imp fun {x y} q => ?_)⟩
  unfold ng at q
  omega
theorem Srd.turn {rk : Keyed → Int} {l : List Keyed} (h : Srd rk l) : Srd (ng rk) l.reverse := by
  refine List.pairwise_reverse.mpr (h.imp fun {x y} q => ?_)
  unfold ng
  omega
theorem ext_from (a : Array Keyed) (n : Nat) : (a.extract 0 n).toList = a.toList.take n := by
  rw [ext_list, List.drop_zero, Nat.sub_zero]
theorem dnH_list (a b out : Array Keyed) (na nb : Nat) : (dnH a b out na nb).toList = (out.toList ++ ((b.toList.take nb).reverse ++ (a.toList.take na).reverse)).reverse := by
  unfold dnH
  simp [ext_from]
theorem fsH_list (a b out : Array Keyed) (na nb : Nat) : (fsH a b out na nb).toList = (out.toList ++ ((a.toList.take na).reverse ++ (b.toList.take nb).reverse)).reverse := by
  unfold fsH
  simp [ext_from]
theorem take_at (a : Array Keyed) {n : Nat} (h : n < a.size) : ∃ x, a[n]? = some x ∧ x ∈ a.toList ∧ (a.toList.take (n + 1)).reverse = x :: (a.toList.take n).reverse := by
  refine ⟨a[n], by simp [h], by simp, ?_⟩
  rw [List.take_succ_eq_append_getElem (by simpa using h)]
  simp
theorem ext_hi {a : Array Keyed} {n : Nat} {l1 l2 : List Keyed} (hn : n ≤ a.size) (e : a.toList.take n = l1 ++ l2) : (a.extract l1.length n).toList = l2 ∧ a.toList.take l1.length = l1 ∧ l1.length + l2.length = n := by
  have ln : l1.length + l2.length = n := by
    have : (a.toList.take n).length = l1.length + l2.length := by rw [e]; simp
    rw [List.length_take] at this
    simp at this
    omega
  refine ⟨?_, ?_, ln⟩
  · rw [ext_list, ← List.drop_take, e, List.drop_left']
    rfl
  · have : (a.toList.take n).take l1.length = l1 := by rw [e, List.take_left']; rfl
    rw [List.take_take, Nat.min_eq_left (by omega)] at this
    exact this
section
variable {prog : Program} {w : World} {A : Around} {E : Value → Shared → Prop} {s : Shared} {rk : Keyed → Int} {kd : SortKind} {D : Keyed → Prop}
abbrev H7 := ForInStep (Option (Array Keyed) × Nat × Nat × Array Keyed × Nat × Nat × Nat)
def gh4 (a b : Array Keyed) (ac bc mg : Nat) (out : Array Keyed) (na nb : Nat) : StateT SortSt Sem H7 := do
  let x ← elem' a (na - 1)
  if (na - 1 == 0) = true then pure (.done (some (dnH a b (out.push x) (na - 1) nb), na - 1, nb, out.push x, mg, ac, bc))
  else if (decide (ac < 7) && decide (bc < 7)) = true then pure (.done (none, na - 1, nb, out.push x, mg, ac, bc))
  else pure (.yield (none, na - 1, nb, out.push x, mg, ac, bc))
def gh3 (a b : Array Keyed) (ac mg : Nat) (out : Array Keyed) (na nb bc0 : Nat) : StateT SortSt Sem H7 := do
  let y ← elem' b (nb - 1)
  if (nb - 1 == 1) = true then pure (.done (some (fsH a b (out.push y) na (nb - 1)), na, nb - 1, out.push y, mg, ac, bc0))
  else
    let x ← elem' a (na - 1)
    let some k ← gallop' true x b 0 (nb - 1) (nb - 1 - 1) | pure (.done (some (dnH a b (out.push y) na (nb - 1)), na, nb - 1, out.push y, mg, ac, bc0))
    if nb - 1 - k > 0 then
        if (k == 1) = true then pure (.done (some (fsH a b (out.push y ++ (b.extract k (nb - 1)).reverse) na k), na, k, out.push y ++ (b.extract k (nb - 1)).reverse, mg, ac, nb - 1 - k))
        else if (k == 0) = true then pure (.done (some (dnH a b (out.push y ++ (b.extract k (nb - 1)).reverse) na k), na, k, out.push y ++ (b.extract k (nb - 1)).reverse, mg, ac, nb - 1 - k))
        else gh4 a b ac (nb - 1 - k) mg (out.push y ++ (b.extract k (nb - 1)).reverse) na k
    else gh4 a b ac (nb - 1 - k) mg (out.push y) na (nb - 1)
def gh2 (a b : Array Keyed) (mg : Nat) (out : Array Keyed) (na nb ac0 bc0 : Nat) : StateT SortSt Sem H7 := do
  setMinGallop' mg
  let y ← elem' b (nb - 1)
  let some k ← gallop' false y a 0 na (na - 1) | pure (.done (some (dnH a b out na nb), na, nb, out, mg, ac0, bc0))
  if na - k > 0 then
      if (k == 0) = true then pure (.done (some (dnH a b (out ++ (a.extract k na).reverse) k nb), k, nb, out ++ (a.extract k na).reverse, mg, na - k, bc0))
      else gh3 a b (na - k) mg (out ++ (a.extract k na).reverse) k nb bc0
  else gh3 a b (na - k) mg out na nb bc0
def ghT (a b : Array Keyed) (c : Option (Array Keyed) × Nat × Nat × Array Keyed × Nat × Nat × Nat) : StateT SortSt Sem H7 :=
  if c.2.2.2.2.1 > 1 then gh2 a b (c.2.2.2.2.1 - 1) c.2.2.2.1 c.2.1 c.2.2.1 c.2.2.2.2.2.1 c.2.2.2.2.2.2 else gh2 a b c.2.2.2.2.1 c.2.2.2.1 c.2.1 c.2.2.1 c.2.2.2.2.2.1 c.2.2.2.2.2.2
abbrev HM (rk : Keyed → Int) (a b out : Array Keyed) (na nb : Nat) : Prop := MI (ng rk) (a.toList ++ b.toList) (a.toList.take na).reverse (b.toList.take nb).reverse out.toList
structure Hi (rk : Keyed → Int) (a b out : Array Keyed) (na nb : Nat) : Prop where
  mi : HM rk a b out na nb
  ha : 0 < na
  hb : 1 < nb
  za : na ≤ a.size
  zb : nb ≤ b.size
theorem Hi.dn {a b out : Array Keyed} {na nb : Nat} (m : HM rk a b out na nb) (h : na = 0 ∨ nb = 0) : Dn rk (a.toList ++ b.toList) (dnH a b out na nb).toList := by
  rw [dnH_list]
  refine Dn.turn (m.symm.fin fun x hx y hy => ?_)
  rcases h with h | h
  · subst h; cases hy
  · subst h; cases hx
theorem Hi.fs {a b out : Array Keyed} {na nb : Nat} (m : HM rk a b out na nb) (h : nb = 1) (lo : ∀ y ∈ b.toList.take 1, ∀ x ∈ a.toList, rk y ≤ rk x) : Dn rk (a.toList ++ b.toList) (fsH a b out na nb).toList := by
  rw [fsH_list]
  refine Dn.turn (m.fin fun x hx y hy => ?_)
  subst h
  have := lo y (List.mem_reverse.mp hy) x (List.mem_of_mem_take (List.mem_reverse.mp hx))
  unfold ng
  omega
theorem wp_gh4 {a b out : Array Keyed} {ac bc mg na nb : Nat} {st st0 : SortSt} {Q : H7 → SortSt → Prop} (L : Hi rk a b out na nb) (lt : ∀ x, a[na - 1]? = some x → ∀ y ∈ b.toList.take nb, rk y ≤ rk x) (g : Gal st0 st)
    (hd : ∀ r c, LoT rk a b st0 r st → Q (.done (some r, c)) st) (hn : ∀ out' na' mg ac bc, Hi rk a b out' na' nb → out.size < out'.size → Q (.done (none, na', nb, out', mg, ac, bc)) st ∧ Q (.yield (none, na', nb, out', mg, ac, bc)) st) :
    wpS (model prog w) A E s (gh4 a b ac bc mg out na nb) Q st := by
  have h1 := L.ha
  have h3 := L.za
  obtain ⟨x, e, ex, ed⟩ := take_at a (n := na - 1) (by omega)
  rw [show na - 1 + 1 = na by omega] at ed
  have m : HM rk a b (out.push x) (na - 1) nb := by
    have m := L.mi
    unfold HM at m ⊢
    rw [ed] at m
    rw [Array.toList_push]
    exact MI.as (xs := [x]) m fun z hz y hy => by
      rw [List.mem_singleton.mp hz]
      have := lt x e y (List.mem_reverse.mp hy)
      unfold ng
      omega
  unfold gh4
  refine wpS_bind (wpS_elem e ?_)
  by_cases c : (na - 1 == 0) = true
  · rw [if_pos c]
    exact wpS_pure (hd _ _ ⟨g, Hi.dn m (.inl (eq_of_beq c))⟩)
  · rw [if_neg c]
    have c' : na - 1 ≠ 0 := by simpa using c
    have := hn (out.push x) (na - 1) mg ac bc ⟨m, by omega, L.hb, by omega, L.zb⟩ (by simp)
    split
    · exact wpS_pure this.1
    · exact wpS_pure this.2
theorem wp_gh3 (ak : Asks prog w A E s rk kd D) {a b out : Array Keyed} {ac mg bc0 na nb : Nat} {st st0 : SortSt} {Q : H7 → SortSt → Prop} (hk : kindOf st = kd) (da : ∀ x ∈ a.toList, D x) (db : ∀ x ∈ b.toList, D x) (sb : Srd rk b.toList) (L : Hi rk a b out na nb) (lt : ∀ y, b[nb - 1]? = some y → ∀ x ∈ a.toList.take na, rk x ≤ rk y) (lo : ∀ y ∈ b.toList.take 1, ∀ x ∈ a.toList, rk y ≤ rk x) (g : Gal st0 st)
    (hd : ∀ r c, LoT rk a b st0 r st → Q (.done (some r, c)) st) (hn : ∀ out' na' nb' mg ac bc, Hi rk a b out' na' nb' → out.size < out'.size → Q (.done (none, na', nb', out', mg, ac, bc)) st ∧ Q (.yield (none, na', nb', out', mg, ac, bc)) st) :
    wpS (model prog w) A E s (gh3 a b ac mg out na nb bc0) Q st := by
  have h1 := L.ha
  have h2 := L.hb
  have h3 := L.za
  have h4 := L.zb
  obtain ⟨y, e, ey, ed⟩ := take_at b (n := nb - 1) (by omega)
  rw [show nb - 1 + 1 = nb by omega] at ed
  obtain ⟨x, f, fx, fd⟩ := take_at a (n := na - 1) (by omega)
  rw [show na - 1 + 1 = na by omega] at fd
  have m : HM rk a b (out.push y) na (nb - 1) := by
    have m := L.mi
    unfold HM at m ⊢
    rw [ed] at m
    rw [Array.toList_push]
    exact MI.bs (xs := [y]) m fun z hz x hx => by
      rw [List.mem_singleton.mp hz]
      have := lt y e x (List.mem_reverse.mp hx)
      unfold ng
      omega
  have sh := srd_head (fd ▸ m.sa)
  unfold gh3
  refine wpS_bind (wpS_elem e ?_)
  by_cases c : (nb - 1 == 1) = true
  · rw [if_pos c]
    exact wpS_pure (hd _ _ ⟨g, Hi.fs m (eq_of_beq c) lo⟩)
  · rw [if_neg c]
    have c' : nb - 1 ≠ 1 := by simpa using c
    refine wpS_bind (wpS_elem f ?_)
    refine wpS_bind (wpS_gal ak (l := b.toList.take (nb - 1)) hk (da x fx) (by rw [List.drop_zero]) (by simp; omega) (fun z hz => db z (List.mem_of_mem_take hz)) (List.Pairwise.sublist (List.take_sublist _ _) sb) (by omega) fun l1 l2 el p1 p2 => ?_)
    have q1 : ∀ z ∈ l1, rk z < rk x := fun z hz => by simpa [gP] using p1 z hz
    have q2 : ∀ z ∈ l2, rk x ≤ rk z := fun z hz => by
      have := p2 z hz
      simp [gP] at this
      exact this
    obtain ⟨X1, X2, X3⟩ := ext_hi (by omega) el
    dsimp only
    by_cases k0 : nb - 1 - l1.length > 0
    · rw [if_pos k0]
      have m2 : HM rk a b (out.push y ++ (b.extract l1.length (nb - 1)).reverse) na l1.length := by
        unfold HM at m ⊢
        rw [Array.toList_append, Array.toList_reverse, X1, X2]
        rw [el, List.reverse_append] at m
        exact m.bs fun z hz x' hx' => by
          have a1 := q2 z (List.mem_reverse.mp hz)
          have a2 := sh x' (fd ▸ hx')
          unfold ng at a2 ⊢
          omega
      by_cases d : (l1.length == 1) = true
      · rw [if_pos d]
        exact wpS_pure (hd _ _ ⟨g, Hi.fs m2 (eq_of_beq d) lo⟩)
      · rw [if_neg d]
        by_cases d2 : (l1.length == 0) = true
        · rw [if_pos d2]
          exact wpS_pure (hd _ _ ⟨g, Hi.dn m2 (.inr (eq_of_beq d2))⟩)
        · rw [if_neg d2]
          have d' : l1.length ≠ 1 := by simpa using d
          have d2' : l1.length ≠ 0 := fun z => d2 (by rw [z]; rfl)
          refine wp_gh4 ⟨m2, h1, by omega, h3, by omega⟩ (fun z hz y hy => ?_) g hd fun o i mg ac bc L' hs => hn o i _ mg ac bc L' ?_
          · rw [X2] at hy
            rw [f] at hz
            cases hz
            exact Int.le_of_lt (q1 y hy)
          · simp at hs; omega
    · rw [if_neg k0]
      have n1 : l2 = [] := List.length_eq_zero_iff.mp (by omega)
      subst n1
      refine wp_gh4 ⟨m, h1, by omega, h3, by omega⟩ (fun z hz y hy => ?_) g hd fun o i mg ac bc L' hs => hn o i _ mg ac bc L' ?_
      · rw [el, List.append_nil] at hy
        rw [f] at hz
        cases hz
        exact Int.le_of_lt (q1 y hy)
      · simp at hs; omega
theorem wp_gh2 (ak : Asks prog w A E s rk kd D) {a b out : Array Keyed} {mg ac0 bc0 na nb : Nat} {st st0 : SortSt} {Q : H7 → SortSt → Prop} (hk : kindOf st0 = kd) (da : ∀ x ∈ a.toList, D x) (db : ∀ x ∈ b.toList, D x) (sa : Srd rk a.toList) (sb : Srd rk b.toList) (L : Hi rk a b out na nb) (lo : ∀ y ∈ b.toList.take 1, ∀ x ∈ a.toList, rk y ≤ rk x) (g : Gal st0 st)
    (hd : ∀ r c st, LoT rk a b st0 r st → Q (.done (some r, c)) st) (hn : ∀ out' na' nb' mg ac bc st, Gal st0 st → Hi rk a b out' na' nb' → out.size < out'.size → Q (.done (none, na', nb', out', mg, ac, bc)) st ∧ Q (.yield (none, na', nb', out', mg, ac, bc)) st) :
    wpS (model prog w) A E s (gh2 a b mg out na nb ac0 bc0) Q st := by
  have h1 := L.ha
  have h2 := L.hb
  have h3 := L.za
  have h4 := L.zb
  have m := L.mi
  obtain ⟨y, e, ey, ed⟩ := take_at b (n := nb - 1) (by omega)
  rw [show nb - 1 + 1 = nb by omega] at ed
  have sh := srd_head (ed ▸ m.sb)
  unfold gh2
  refine wpS_bind (wpS_setG fun st1 g1 => ?_)
  have g' := g.trans g1
  refine wpS_bind (wpS_elem e ?_)
  refine wpS_bind (wpS_gal ak (l := a.toList.take na) (g'.1.trans hk) (db y ey) (by rw [List.drop_zero]) (by simp; omega) (fun z hz => da z (List.mem_of_mem_take hz)) (List.Pairwise.sublist (List.take_sublist _ _) sa) (by omega) fun l1 l2 el p1 p2 => ?_)
  have q1 : ∀ z ∈ l1, rk z ≤ rk y := fun z hz => by simpa [gP] using p1 z hz
  have q2 : ∀ z ∈ l2, rk y < rk z := fun z hz => by simpa [gP] using p2 z hz
  obtain ⟨X1, X2, X3⟩ := ext_hi (by omega) el
  dsimp only
  by_cases k0 : na - l1.length > 0
  · rw [if_pos k0]
    have m2 : HM rk a b (out ++ (a.extract l1.length na).reverse) l1.length nb := by
      unfold HM at m ⊢
      rw [Array.toList_append, Array.toList_reverse, X1, X2]
      rw [el, List.reverse_append] at m
      exact m.as fun z hz x' hx' => by
        have a1 := q2 z (List.mem_reverse.mp hz)
        have a2 := sh x' (ed ▸ hx')
        unfold ng at a2 ⊢
        omega
    by_cases d2 : (l1.length == 0) = true
    · rw [if_pos d2]
      exact wpS_pure (hd _ _ _ ⟨g', Hi.dn m2 (.inl (eq_of_beq d2))⟩)
    · rw [if_neg d2]
      have d2' : l1.length ≠ 0 := fun z => d2 (by rw [z]; rfl)
      refine wp_gh3 ak (g'.1.trans hk) da db sb ⟨m2, by omega, h2, by omega, h4⟩ (fun z hz x hx => ?_) lo g' (fun r c => hd r c _) fun o i j mg ac bc L' hs => hn o i j mg ac bc _ g' L' ?_
      · rw [X2] at hx
        rw [e] at hz
        cases hz
        exact q1 x hx
      · simp at hs; omega
  · rw [if_neg k0]
    have n1 : l2 = [] := List.length_eq_zero_iff.mp (by omega)
    subst n1
    refine wp_gh3 ak (g'.1.trans hk) da db sb L (fun z hz x hx => ?_) lo g' (fun r c => hd r c _) fun o i j mg ac bc L' hs => hn o i j mg ac bc _ g' L' hs
    rw [el, List.append_nil] at hx
    rw [e] at hz
    cases hz
    exact q1 x hx
theorem wpS_mergeHi (ak : Asks prog w A E s rk kd D) {a b : Array Keyed} {st : SortSt} {Q : Array Keyed → SortSt → Prop} (hk : kindOf st = kd) (da : ∀ x ∈ a.toList, D x) (db : ∀ x ∈ b.toList, D x) (sa : Srd rk a.toList) (sb : Srd rk b.toList) (h1 : 1 ≤ a.size) (h2 : 1 ≤ b.size)
    (lo : ∀ y ∈ b.toList.take 1, ∀ x ∈ a.toList, rk y ≤ rk x) (hi : ∀ x ∈ a.toList.drop (a.size - 1), ∀ y ∈ b.toList, rk y ≤ rk x) (h : ∀ r st', Gal st st' → Dn rk (a.toList ++ b.toList) r.toList → Q r st') : wpS (model prog w) A E s (mergeHi' a b) Q st := by
  rw [mergeHi'_eq]
  refine wpS_bind (wpS_lift (wpAny_rule ⟨rfl, ?_⟩))
  obtain ⟨x, e, ex, ed⟩ := take_at a (n := a.size - 1) (by omega)
  rw [show a.size - 1 + 1 = a.size by omega] at ed
  refine wpS_bind (wpS_elem e ?_)
  have m : HM rk a b #[x] (a.size - 1) b.size := by
    have m0 : MI (ng rk) (a.toList ++ b.toList) (a.toList.take a.size).reverse (b.toList.take b.size).reverse [] := by
      have ea : a.toList.take a.size = a.toList := List.take_of_length_le (by simp)
      have eb : b.toList.take b.size = b.toList := List.take_of_length_le (by simp)
      rw [ea, eb]
      refine ⟨?_, List.Pairwise.nil, sa.turn, sb.turn, fun x hx => (by cases hx), fun x hx => (by cases hx)⟩
      exact ((List.reverse_perm _).append (List.reverse_perm _))
    rw [ed] at m0
    refine MI.as (xs := [x]) m0 fun z hz y hy => ?_
    rw [List.mem_singleton.mp hz]
    have := hi x ?_ y (List.mem_of_mem_take (List.mem_reverse.mp hy))
    · unfold ng; omega
    · obtain ⟨x', e', _, ed'⟩ := arr_at a (i := a.size - 1) (by omega)
      rw [e] at e'
      cases e'
      rw [ed']
      exact List.mem_cons_self ..
  by_cases e1 : (a.size - 1 == 0) = true
  · rw [if_pos e1]
    exact wpS_pure (h _ _ (Gal.refl _) (Hi.dn m (.inl (eq_of_beq e1))))
  rw [if_neg e1]
  by_cases e2 : (b.size == 1) = true
  · rw [if_pos e2]
    exact wpS_pure (h _ _ (Gal.refl _) (Hi.fs m (eq_of_beq e2) lo))
  rw [if_neg e2]
  have e1' : a.size - 1 ≠ 0 := fun z => e1 (by rw [z]; rfl)
  have e2' : b.size ≠ 1 := fun z => e2 (by rw [z]; rfl)
  refine wpS_bind (wpS_get ?_)
  have tot : ∀ {o : Array Keyed} {i j : Nat}, Hi rk a b o i j → o.size + 3 ≤ a.size + b.size := fun {o i j} L => by
    have := L.mi.len
    have := L.ha
    have := L.hb
    have := L.za
    have := L.zb
    simp at *
    omega
  refine wpS_bind (wpS_mono (wpS_forRange (I := fun x c st' => ∃ out na nb mg, c = (none, na, nb, out, mg) ∧ Hi rk a b out na nb ∧ x + 1 ≤ out.size ∧ Gal st st')
    (Q := fun c st' => ∃ r c', c = (some r, c') ∧ LoT rk a b st r st') ?_ ?_ ⟨_, _, _, _, rfl, ⟨m, by omega, by omega, by omega, Nat.le_refl _⟩, by simp, Gal.refl _⟩) ?_)
  · rintro x c st1 _ hx ⟨out, ia, ib, mg, rfl, L, hs, g⟩
    refine wpS_bind (wpS_mono (wpS_forRange (I := fun y c st' => ∃ o ia ib ac bc, c = (none, ia, ib, o, ac, bc) ∧ Hi rk a b o ia ib ∧ out.size + y ≤ o.size ∧ Gal st st')
      (Q := fun c st' => (∃ r c', c = (some r, c') ∧ LoT rk a b st r st') ∨ ∃ o ia ib ac bc, c = (none, ia, ib, o, ac, bc) ∧ Hi rk a b o ia ib ∧ out.size < o.size ∧ Gal st st') ?_ ?_ ⟨_, _, _, _, _, rfl, L, Nat.le_refl _, g⟩) ?_)
    · rintro y c st2 _ hy ⟨o, ja, jb, ac, bc, rfl, L2, hs2, g2⟩
      have h1 := L2.ha
      have h2 := L2.hb
      have h3 := L2.za
      have h4 := L2.zb
      have m := L2.mi
      obtain ⟨v, f, fv, fd⟩ := take_at b (n := jb - 1) (by omega)
      rw [show jb - 1 + 1 = jb by omega] at fd
      obtain ⟨u, p, pu, pd⟩ := take_at a (n := ja - 1) (by omega)
      rw [show ja - 1 + 1 = ja by omega] at pd
      refine wpS_bind (wpS_elem f ?_)
      refine wpS_bind (wpS_elem p ?_)
      refine wpS_bind (ak v u (db v fv) (da u pu) _ _ (g2.1.trans hk) ?_)
      have sv := srd_head (fd ▸ m.sb)
      have su := srd_head (pd ▸ m.sa)
      unfold ng at sv su
      by_cases c : rk v < rk u
      · rw [decide_eq_true c]
        have m2 : HM rk a b (o.push u) (ja - 1) jb := by
          unfold HM at m ⊢
          rw [pd] at m
          rw [Array.toList_push]
          refine MI.as (xs := [u]) m fun z hz x hx => ?_
          rw [List.mem_singleton.mp hz]
          have := sv x (fd ▸ hx)
          unfold ng
          omega
        dsimp only
        rw [if_pos rfl]
        refine wpS_bind (wpS_elem p ?_)
        by_cases q : (ja - 1 == 0) = true
        · rw [if_pos q]
          exact wpS_pure (.inl ⟨_, _, rfl, g2, Hi.dn m2 (.inl (eq_of_beq q))⟩)
        · rw [if_neg q]
          have q' : ja - 1 ≠ 0 := fun z => q (by rw [z]; rfl)
          split
          · exact wpS_pure (.inr ⟨_, _, _, _, _, rfl, ⟨m2, by omega, h2, by omega, h4⟩, by simp; omega, g2⟩)
          · exact wpS_pure ⟨_, _, _, _, _, rfl, ⟨m2, by omega, h2, by omega, h4⟩, by simp; omega, g2⟩
      · rw [decide_eq_false c]
        have m2 : HM rk a b (o.push v) ja (jb - 1) := by
          unfold HM at m ⊢
          rw [fd] at m
          rw [Array.toList_push]
          refine MI.bs (xs := [v]) m fun z hz x hx => ?_
          rw [List.mem_singleton.mp hz]
          have := su x (pd ▸ hx)
          unfold ng
          omega
        dsimp only
        rw [if_neg (by decide)]
        refine wpS_bind (wpS_elem f ?_)
        by_cases q : (jb - 1 == 1) = true
        · rw [if_pos q]
          exact wpS_pure (.inl ⟨_, _, rfl, g2, Hi.fs m2 (eq_of_beq q) lo⟩)
        · rw [if_neg q]
          have q' : jb - 1 ≠ 1 := fun z => q (by rw [z]; rfl)
          split
          · exact wpS_pure (.inr ⟨_, _, _, _, _, rfl, ⟨m2, h1, by omega, h3, by omega⟩, by simp; omega, g2⟩)
          · exact wpS_pure ⟨_, _, _, _, _, rfl, ⟨m2, h1, by omega, h3, by omega⟩, by simp; omega, g2⟩
    · rintro c st2 ⟨o, ja, jb, ac, bc, rfl, L2, hs2, g2⟩
      have := tot L2
      omega
    · rintro c st2 (⟨r, c', rfl, hr⟩ | ⟨o, ja, jb, ac, bc, rfl, L2, hs2, g2⟩)
      · exact wpS_pure ⟨r, _, rfl, hr⟩
      · refine wpS_bind (wpS_lift (wpAny_rule ⟨rfl, ?_⟩))
        refine wpS_bind (wpS_mono (wpS_forRange (I := fun y c st' => ∃ o' ia ib mg ac bc, c = (none, ia, ib, o', mg, ac, bc) ∧ Hi rk a b o' ia ib ∧ o.size + y ≤ o'.size ∧ Gal st st')
          (Q := fun c st' => (∃ r c', c = (some r, c') ∧ LoT rk a b st r st') ∨ ∃ o' ia ib mg ac bc, c = (none, ia, ib, o', mg, ac, bc) ∧ Hi rk a b o' ia ib ∧ o.size ≤ o'.size ∧ Gal st st') ?_ ?_ ⟨_, _, _, _, _, _, rfl, L2, Nat.le_refl _, g2⟩) ?_)
        · rintro y c st3 _ hy ⟨o', ka, kb, mg', ac', bc', rfl, L3, hs3, g3⟩
          have one : ∀ mg, wpS (model prog w) A E s (gh2 a b mg o' ka kb ac' bc') (fun r st' => match r with | .done c' => (∃ r c'', c' = (some r, c'') ∧ LoT rk a b st r st') ∨ ∃ o' ia ib mg ac bc, c' = (none, ia, ib, o', mg, ac, bc) ∧ Hi rk a b o' ia ib ∧ o.size ≤ o'.size ∧ Gal st st' | .yield c' => ∃ o' ia ib mg ac bc, c' = (none, ia, ib, o', mg, ac, bc) ∧ Hi rk a b o' ia ib ∧ o.size + (y + 1) ≤ o'.size ∧ Gal st st') st3 := fun mg =>
            wp_gh2 ak hk da db sa sb L3 lo g3 (fun r c st5 hr => .inl ⟨r, c, rfl, hr⟩) fun o6 i j mg6 ac6 bc6 st6 g6 L6 hs6 => ⟨.inr ⟨_, _, _, _, _, _, rfl, L6, by omega, g6⟩, ⟨_, _, _, _, _, _, rfl, L6, by omega, g6⟩⟩
          refine wpS_mono (m := ghT a b (none, ka, kb, o', mg', ac', bc')) ?_ (fun r st' hr => ?_) (Q := fun r st' => match r with | .done c' => (∃ r c'', c' = (some r, c'') ∧ LoT rk a b st r st') ∨ ∃ o' ia ib mg ac bc, c' = (none, ia, ib, o', mg, ac, bc) ∧ Hi rk a b o' ia ib ∧ o.size ≤ o'.size ∧ Gal st st' | .yield c' => ∃ o' ia ib mg ac bc, c' = (none, ia, ib, o', mg, ac, bc) ∧ Hi rk a b o' ia ib ∧ o.size + (y + 1) ≤ o'.size ∧ Gal st st')
          · unfold ghT
            split
            · exact one _
            · exact one _
          · cases r with
            | done c' => exact hr
            | yield c' => exact hr
        · rintro c st3 ⟨o', ka, kb, mg', ac', bc', rfl, L3, hs3, g3⟩
          have := tot L3
          omega
        · rintro c st3 (⟨r, c', rfl, hr⟩ | ⟨o', ka, kb, mg', ac', bc', rfl, L3, hs3, g3⟩)
          · exact wpS_pure ⟨r, _, rfl, hr⟩
          · refine wpS_bind (wpS_setG fun st4 g4 => ?_)
            exact wpS_pure ⟨_, _, _, _, rfl, L3, by show _ ≤ o'.size; omega, g3.trans g4⟩
  · rintro c st1 ⟨out, ia, ib, mg, rfl, L, hs, g⟩
    have := tot L
    omega
  · rintro c st1 ⟨r, c', rfl, hr⟩
    exact wpS_pure (h _ _ hr.1 hr.2)
end
end L2
namespace L2
open PySem PySem.Spec PyProof.Rows
def wrA (m : Array Keyed) (s : Nat) (a : Array Keyed) : Array Keyed := m.toList.zipIdx.foldl (fun a (p, j) => a.setIfInBounds (s + j) p) a
theorem mergeAt'_eq (i : Nat) : mergeAt' i = (do
  let s ← get
  let (some (sa, na, power), some (sb, nb, _)) := ((pendingOf s)[i]?, (pendingOf s)[i + 1]?) | unsupported "internal:list.sort.pending"
  set (setPending s (((pendingOf s).setIfInBounds i (sa, na + nb, power)).eraseIdxIfInBounds (i + 1)))
  let some k ← gallop' false (← elem' (arrOf s) sb) (arrOf s) sa na 0 | return false
  let (sa, na) := (sa + k, na - k)
  if na == 0 then return true
  let some nb ← gallop' true (← elem' (arrOf s) (sa + na - 1)) (arrOf s) sb nb (nb - 1) | return false
  if nb == 0 then return true
  let x := (arrOf s).extract sa sb
  let y := (arrOf s).extract sb (sb + nb)
  let merged ← if na ≤ nb then mergeLo' x y else mergeHi' x y
  modify fun s => setArr s (wrA merged sa (arrOf s))
  return (failedOf (← get)).isNone) := rfl
theorem wr_list (s : Nat) : ∀ (l : List Keyed) (k : Nat) (a : Array Keyed), s + k + l.length ≤ a.size → ((l.zipIdx k).foldl (fun a (p, j) => a.setIfInBounds (s + j) p) a).toList = a.toList.take (s + k) ++ (l ++ a.toList.drop (s + k + l.length))
  | [], k, a, h => by simp
  | p :: l, k, a, h => by
    rw [List.zipIdx_cons, List.foldl_cons]
    have hl : s + k + (l.length + 1) ≤ a.size := h
    rw [wr_list s l (k + 1) _ (by simp; omega)]
    have e : (a.setIfInBounds (s + k) p).toList = a.toList.set (s + k) p := Array.toList_setIfInBounds ..
    rw [e]
    have hs : s + k < a.toList.length := by simp; omega
    have e1 : (a.toList.set (s + k) p).take (s + (k + 1)) = a.toList.take (s + k) ++ [p] := by
      rw [show s + (k + 1) = s + k + 1 by omega, List.take_succ_eq_append_getElem (by simpa using hs), List.take_set_of_le (Nat.le_refl _)]
      simp
    have e2 : (a.toList.set (s + k) p).drop (s + (k + 1) + l.length) = a.toList.drop (s + k + (p :: l).length) := by
      rw [List.drop_set_of_lt (by omega)]
      congr 1
      simp
      omega
    rw [e1, e2]
    simp
theorem wr_app {P X S M : List Keyed} {a m : Array Keyed} (e : a.toList = P ++ (X ++ S)) (hm : m.toList = M) (hl : M.length = X.length) : (wrA m P.length a).toList = P ++ (M ++ S) := by
  subst hm
  have sz : a.size = P.length + (X.length + S.length) := by
    rw [← Array.length_toList, e]; simp
  unfold wrA
  rw [wr_list P.length m.toList 0 a (by omega), e, Nat.add_zero, List.take_left', hl]
  · congr 2
    rw [← List.append_assoc, List.drop_left']
    simp
  · rfl
section
variable {prog : Program} {w : World} {A : Around} {E : Value → Shared → Prop} {s : Shared} {rk : Keyed → Int} {kd : SortKind} {D : Keyed → Prop}
theorem wpS_set {σ : Type} {M : Model} {st st' : σ} {Q : PUnit → σ → Prop} (h : Q ⟨⟩ st') : wpS M A E s (set st' : StateT σ Sem PUnit) Q st := by
  unfold wpS; rw [StateT.run_set]; exact wpAny_pure ⟨rfl, h⟩
theorem at_app {a : Array Keyed} {P S : List Keyed} {x : Keyed} (e : a.toList = P ++ x :: S) : a[P.length]? = some x := by
  rw [← Array.getElem?_toList, e, List.getElem?_append_right (Nat.le_refl _)]
  simp
theorem wpS_mergeAt (ak : Asks prog w A E s rk kd D) {i : Nat} {st : SortSt} {Q : Bool → SortSt → Prop} {P X Y S : List Keyed} {pw q : Nat} (hk : kindOf st = kd) (hf : failedOf st = none) (e : (arrOf st).toList = P ++ (X ++ (Y ++ S))) (d : ∀ x ∈ (arrOf st).toList, D x)
    (p1 : (pendingOf st)[i]? = some (P.length, X.length, pw)) (p2 : (pendingOf st)[i + 1]? = some (P.length + X.length, Y.length, q)) (sX : Srd rk X) (sY : Srd rk Y) (nX : X ≠ []) (nY : Y ≠ [])
    (h : ∀ st' M, kindOf st' = kd → failedOf st' = none → pendingOf st' = ((pendingOf st).setIfInBounds i (P.length, X.length + Y.length, pw)).eraseIdxIfInBounds (i + 1) → (arrOf st').toList = P ++ (M ++ S) → Dn rk (X ++ Y) M → Q true st') : wpS (model prog w) A E s (mergeAt' i) Q st := by
  rw [mergeAt'_eq]
  refine wpS_bind (wpS_get ?_)
  rw [p1, p2]
  dsimp only
  refine wpS_bind (wpS_set ?_)
  obtain ⟨b0, Y', eY⟩ := List.exists_cons_of_ne_nil nY
  have sb0 := srd_head (eY ▸ sY)
  rw [← eY] at sb0
  have eb : (arrOf st)[P.length + X.length]? = some b0 := by
    have := at_app (a := arrOf st) (P := P ++ X) (x := b0) (S := Y' ++ S) (by rw [e, eY]; simp)
    simpa using this
  have dX : ∀ x ∈ X, D x := fun x hx => d x (by rw [e]; simp [hx])
  have dY : ∀ x ∈ Y, D x := fun x hx => d x (by rw [e]; simp [hx])
  have mb : b0 ∈ Y := by rw [eY]; exact List.mem_cons_self ..
  refine wpS_bind (wpS_elem eb ?_)
  refine wpS_bind (wpS_gal ak (l := X) hk (dY _ mb) (by rw [e, List.drop_left' rfl, List.take_left' rfl]) rfl dX sX (List.length_pos_iff.mpr nX) fun l1 l2 el q1 q2 => ?_)
  have r1 : ∀ z ∈ l1, rk z ≤ rk b0 := fun z hz => by simpa [gP] using q1 z hz
  have r2 : ∀ z ∈ l2, rk b0 < rk z := fun z hz => by simpa [gP] using q2 z hz
  have lX : X.length = l1.length + l2.length := by rw [el]; simp
  have plain : (∀ x ∈ X, ∀ y ∈ Y, rk x ≤ rk y) → Dn rk (X ++ Y) (X ++ Y) := fun c => ⟨List.Perm.refl _, List.pairwise_append.mpr ⟨sX, sY, c⟩⟩
  dsimp only
  by_cases c : (X.length - l1.length == 0) = true
  · rw [if_pos c]
    have c' : X.length - l1.length = 0 := eq_of_beq c
    have n2 : l2 = [] := List.length_eq_zero_iff.mp (by omega)
    rw [n2, List.append_nil] at el
    exact wpS_pure (h _ (X ++ Y) hk hf rfl (by rw [List.append_assoc]; exact e) (plain fun x hx y hy => Int.le_trans (r1 x (el ▸ hx)) (sb0 y hy)))
  · rw [if_neg c]
    have c' : X.length - l1.length ≠ 0 := fun z => c (by rw [z]; rfl)
    obtain ⟨l3, z, e3⟩ : ∃ l3 z, l2 = l3 ++ [z] := by
      rcases List.eq_nil_or_concat l2 with z | ⟨l3, z, hz⟩
      · rw [z] at lX; simp at lX; omega
      · exact ⟨l3, z, by simpa using hz⟩
    have ez : (arrOf st)[P.length + l1.length + (X.length - l1.length) - 1]? = some z := by
      have := at_app (a := arrOf st) (P := P ++ l1 ++ l3) (x := z) (S := Y ++ S) (by rw [e, el, e3]; simp)
      rw [← this]
      congr 1
      have : l2.length = l3.length + 1 := by rw [e3]; simp
      simp
      omega
    have mz : z ∈ X := by rw [el, e3]; simp
    have topz : ∀ x ∈ X, rk x ≤ rk z := fun x hx => by
      have e4 : X = (l1 ++ l3) ++ [z] := by rw [el, e3]; simp
      rw [e4] at hx sX
      rcases List.mem_append.mp hx with hx | hx
      · exact (List.pairwise_append.mp sX).2.2 x hx z (List.mem_singleton.mpr rfl)
      · rw [List.mem_singleton.mp hx]; exact Int.le_refl _
    refine wpS_bind (wpS_elem ez ?_)
    refine wpS_bind (wpS_gal ak (l := Y) hk (dX _ mz) (by rw [e, ← List.append_assoc, List.drop_left' (by simp), List.take_left' rfl]) rfl dY sY (by have := List.length_pos_iff.mpr nY; omega) fun m1 m2 em t1 t2 => ?_)
    have u1 : ∀ y ∈ m1, rk y < rk z := fun y hy => by simpa [gP] using t1 y hy
    have u2 : ∀ y ∈ m2, rk z ≤ rk y := fun y hy => by
      have := t2 y hy
      simp [gP] at this
      exact this
    dsimp only
    by_cases f : (m1.length == 0) = true
    · rw [if_pos f]
      have n1 : m1 = [] := List.length_eq_zero_iff.mp (eq_of_beq f)
      rw [n1, List.nil_append] at em
      exact wpS_pure (h _ (X ++ Y) hk hf rfl (by rw [List.append_assoc]; exact e) (plain fun x hx y hy => Int.le_trans (topz x hx) (u2 y (em ▸ hy))))
    · rw [if_neg f]
      have f' : m1.length ≠ 0 := fun z => f (by rw [z]; rfl)
      have ex : ((arrOf st).extract (P.length + l1.length) (P.length + X.length)).toList = l2 := by
        rw [ext_list, e, el, show P ++ ((l1 ++ l2) ++ (Y ++ S)) = (P ++ l1) ++ (l2 ++ (Y ++ S)) by simp, List.drop_left' (by simp), List.take_left' (by simp; omega)]
      have ey : ((arrOf st).extract (P.length + X.length) (P.length + X.length + m1.length)).toList = m1 := by
        rw [ext_list, e, em, show P ++ (X ++ ((m1 ++ m2) ++ S)) = (P ++ X) ++ (m1 ++ (m2 ++ S)) by simp, List.drop_left' (by simp), List.take_left' (by omega)]
      have sx : ((arrOf st).extract (P.length + l1.length) (P.length + X.length)).size = l2.length := by rw [← Array.length_toList, ex]
      have sy : ((arrOf st).extract (P.length + X.length) (P.length + X.length + m1.length)).size = m1.length := by rw [← Array.length_toList, ey]
      have s2 : Srd rk l2 := (List.pairwise_append.mp (el ▸ sX)).2.1
      have t2' : Srd rk m1 := (List.pairwise_append.mp (em ▸ sY)).1
      have i1 : ∀ x ∈ l2, x ∈ X := fun x hx => by rw [el]; exact List.mem_append_right _ hx
      have i2 : ∀ x ∈ m1, x ∈ Y := fun x hx => by rw [em]; exact List.mem_append_left _ hx
      have lo : ∀ y ∈ m1.take 1, ∀ x ∈ l2, rk y ≤ rk x := fun y hy x hx => by
        have : y = b0 := by
          cases m1 with
          | nil => cases hy
          | cons v m1 =>
            rw [eY] at em
            injection em with e5 _
            rw [e5]
            simpa using hy
        rw [this]
        exact Int.le_of_lt (r2 x hx)
      have hi : ∀ x ∈ l2.drop (l2.length - 1), ∀ y ∈ m1, rk y ≤ rk x := fun x hx y hy => by
        have : x = z := by
          rw [e3] at hx
          simpa using hx
        rw [this]
        exact Int.le_of_lt (u1 y hy)
      have post : ∀ (r : Array Keyed) (st' : SortSt), Gal (setPending st (((pendingOf st).setIfInBounds i (P.length, X.length + Y.length, pw)).eraseIdxIfInBounds (i + 1))) st' → Dn rk (l2 ++ m1) r.toList → wpS (model prog w) A E s (do modify fun s => setArr s (wrA r (P.length + l1.length) (arrOf s)); return (failedOf (← get)).isNone) Q st' := fun r st' g dn => by
        refine wpS_bind (wpS_modify ?_)
        refine wpS_bind (wpS_get ?_)
        have ef : failedOf st' = none := g.2.2.2.trans hf
        have ea : (arrOf st').toList = (P ++ l1) ++ ((l2 ++ m1) ++ (m2 ++ S)) := by
          rw [g.2.1]
          show (arrOf st).toList = _
          rw [e, el, em]; simp
        have ew := wr_app (m := r) ea rfl dn.1.length_eq
        rw [List.length_append] at ew
        have fin := h (setArr st' (wrA r (P.length + l1.length) (arrOf st'))) (l1 ++ (r.toList ++ m2)) (g.1.trans hk) ef g.2.2.1 (by
          show (wrA r (P.length + l1.length) (arrOf st')).toList = _
          rw [ew]; simp) ?_
        · have et : (failedOf (setArr st' (wrA r (P.length + l1.length) (arrOf st')))).isNone = true := by
            show (failedOf st').isNone = true
            rw [ef]; rfl
          rw [et]
          exact wpS_pure fin
        · refine ⟨?_, ?_⟩
          · rw [el, em, List.append_assoc]
            refine List.Perm.append_left l1 ?_
            rw [← List.append_assoc]
            exact List.Perm.append_right m2 dn.1
          · have mem : ∀ x ∈ r.toList, x ∈ l2 ∨ x ∈ m1 := fun x hx => List.mem_append.mp (dn.1.mem_iff.mp hx)
            have sp := List.pairwise_append.mp (el ▸ sX)
            have sq := List.pairwise_append.mp (em ▸ sY)
            have am : ∀ y ∈ m2, y ∈ Y := fun y hy => by rw [em]; exact List.mem_append_right _ hy
            refine List.pairwise_append.mpr ⟨sp.1, List.pairwise_append.mpr ⟨dn.2, sq.2.1, fun x hx y hy => ?_⟩, fun x hx y hy => ?_⟩
            · rcases mem x hx with k | k
              · exact Int.le_trans (topz x (i1 x k)) (u2 y hy)
              · exact sq.2.2 x k y hy
            · rcases List.mem_append.mp hy with k | k
              · rcases mem y k with k | k
                · exact sp.2.2 x hx y k
                · exact Int.le_trans (r1 x hx) (sb0 y (i2 y k))
              · exact Int.le_trans (r1 x hx) (sb0 y (am y k))
      by_cases sm : X.length - l1.length ≤ m1.length
      · rw [if_pos sm]
        refine wpS_bind (wpS_mergeLo ak hk (fun x hx => dX x (i1 x (ex ▸ hx))) (fun x hx => dY x (i2 x (ey ▸ hx))) (ex.symm ▸ s2) (ey.symm ▸ t2') (by omega) (by omega) (by rw [ex, ey]; exact lo) (by rw [ex, ey, sx]; exact hi) fun r st' g dn => ?_)
        rw [ex, ey] at dn
        exact post r st' g dn
      · rw [if_neg sm]
        refine wpS_bind (wpS_mergeHi ak hk (fun x hx => dX x (i1 x (ex ▸ hx))) (fun x hx => dY x (i2 x (ey ▸ hx))) (ex.symm ▸ s2) (ey.symm ▸ t2') (by omega) (by omega) (by rw [ex, ey]; exact lo) (by rw [ex, ey, sx]; exact hi) fun r st' g dn => ?_)
        rw [ex, ey] at dn
        exact post r st' g dn
end
end L2
namespace L2
open PySem PySem.Spec PyProof.Rows
def kr (rk : Keyed → Int) (xs : Array Keyed) (i : Nat) : Int := match xs[i]? with
  | some p => rk p
  | none => 0
theorem kr_congr {rk : Keyed → Int} {xs ys : Array Keyed} {i j : Nat} (h : xs[i]? = ys[j]?) : kr rk xs i = kr rk ys j := by unfold kr; rw [h]
theorem kr_rev {rk : Keyed → Int} {xs : Array Keyed} {i j : Nat} (hj : j ≤ xs.size) (k : Nat) : kr rk (mirror xs i j ((j - i) / 2)) k = if i ≤ k ∧ k < j then kr rk xs (i + j - 1 - k) else kr rk xs k := by
  have e := getElem?_mirror_all (i := i) hj k
  split
  · rename_i h; rw [if_pos h] at e; exact kr_congr e
  · rename_i h; rw [if_neg h] at e; exact kr_congr e
theorem kr_bub {rk : Keyed → Int} {xs : Array Keyed} {src d : Nat} (hs : src < xs.size) (hd : d ≤ src) (k : Nat) : kr rk (bubble xs src d) k = if k = src - d then kr rk xs src else if src - d < k ∧ k ≤ src then kr rk xs (k - 1) else kr rk xs k := by
  have e := getElem?_bubble hs d hd k
  split
  · rename_i h; rw [if_pos h] at e; exact kr_congr e
  · rename_i h
    rw [if_neg h] at e
    split
    · rename_i h; rw [if_pos h] at e; exact kr_congr e
    · rename_i h; rw [if_neg h] at e; exact kr_congr e
def Up (rk : Keyed → Int) (xs : Array Keyed) (lo n : Nat) : Prop := ∀ i j, i ≤ j → j < n → kr rk xs (lo + i) ≤ kr rk xs (lo + j)
def Dw (rk : Keyed → Int) (xs : Array Keyed) (lo n : Nat) : Prop := ∀ i j, i ≤ j → j < n → kr rk xs (lo + j) ≤ kr rk xs (lo + i)
structure Sf (a₀ : Array Keyed) (lo : Nat) (kd : SortKind) (pd : Array (Nat × Nat × Nat)) (st : SortSt) : Prop where
  perm : (arrOf st).Perm a₀
  kind : kindOf st = kd
  failed : failedOf st = none
  pend : pendingOf st = pd
  low : ∀ i, i < lo → (arrOf st)[i]? = a₀[i]?
section
variable {prog : Program} {w : World} {A : Around} {E : Value → Shared → Prop} {s : Shared} {rk : Keyed → Int} {kd : SortKind} {D : Keyed → Prop} {a₀ : Array Keyed} {lo : Nat} {pd : Array (Nat × Nat × Nat)}
theorem Sf.size {st : SortSt} (h : Sf a₀ lo kd pd st) : (arrOf st).size = a₀.size := h.perm.size_eq
theorem Sf.arr {st : SortSt} (h : Sf a₀ lo kd pd st) {xs : Array Keyed} (p : xs.Perm (arrOf st)) (l : ∀ i, i < lo → xs[i]? = (arrOf st)[i]?) : Sf a₀ lo kd pd (setArr st xs) := ⟨p.trans h.perm, h.kind, h.failed, h.pend, fun i hi => (l i hi).trans (h.low i hi)⟩
theorem Sf.rev {st : SortSt} (h : Sf a₀ lo kd pd st) {i j : Nat} (hi : lo ≤ i) (hj : j ≤ a₀.size) : Sf a₀ lo kd pd (setArr st (mirror (arrOf st) i j ((j - i) / 2))) := h.arr (mirror_perm _ _ _ _) fun k hk => by
  rw [getElem?_mirror_all (by rw [h.size]; exact hj), if_neg (by omega)]
theorem wpS_ltO (ak : Asks prog w A E s rk kd D) (d : ∀ x ∈ a₀.toList, D x) {st : SortSt} {i j : Nat} {Q : Option Bool → SortSt → Prop} (F : Sf a₀ lo kd pd st) (hi : i < a₀.size) (hj : j < a₀.size)
    (h : Q (some (decide (kr rk (arrOf st) i < kr rk (arrOf st) j))) st) : wpS (model prog w) A E s (ltAt' i j) Q st := by
  have get : ∀ k, k < a₀.size → ∃ p, (arrOf st)[k]? = some p ∧ D p := fun k hk => by
    have hk' : k < (arrOf st).size := by rw [F.size]; exact hk
    exact ⟨(arrOf st)[k], getElem?_pos _ k hk', d _ ((Array.perm_iff_toList_perm.mp F.perm).mem_iff.mp (by simp))⟩
  obtain ⟨p, e1, d1⟩ := get i hi
  obtain ⟨q, e2, d2⟩ := get j hj
  rw [ltAt'_eq]
  refine wpS_bind (wpS_get ?_)
  refine wpS_bind (wpS_elem e1 ?_)
  refine wpS_bind (wpS_elem e2 ?_)
  refine ak p q d1 d2 st Q F.kind ?_
  unfold kr at h
  rw [e1, e2] at h
  exact h
def ascO (lo a nrem : Nat) : StateT SortSt Sem AscSt :=
  forIn [a:nrem] ((none, a) : AscSt) fun _ c => do
    let some smaller ← ltAt' (lo + c.2) (lo + c.2 - 1) | pure (ForInStep.done (some none, c.2))
    if smaller then pure (ForInStep.done (none, c.2)) else pure (ForInStep.yield (none, c.2 + 1))
def tailO (lo n0 nrem : Nat) : StateT SortSt Sem (Option Nat) := do
  reverseSlice' lo (lo + n0)
  let mut n := n0
  for _ in [n:nrem] do
    let some smaller ← ltAt' (lo + n) (lo + n - 1) | return none
    if smaller then break
    n := n + 1
  return some n
def descO (lo n0 nrem : Nat) : StateT SortSt Sem (Option Nat) := do
  rule "list.sort.descending-run"
  let mut n := n0 + 1
  let mut neq := 0
  for _ in [n:nrem] do
    let some smaller ← ltAt' (lo + n) (lo + n - 1) | return none
    if smaller then
      if neq > 0 then reverseSlice' (lo + n - (neq + 1)) (lo + n)
      neq := 0
    else
      let some larger ← ltAt' (lo + n - 1) (lo + n) | return none
      if larger then break
      neq := neq + 1
    n := n + 1
  if neq > 0 then reverseSlice' (lo + n - (neq + 1)) (lo + n)
  reverseSlice' lo (lo + n)
  for _ in [n:nrem] do
    let some smaller ← ltAt' (lo + n) (lo + n - 1) | return none
    if smaller then break
    n := n + 1
  return some n
theorem wp_ascO (ak : Asks prog w A E s rk kd D) (d : ∀ x ∈ a₀.toList, D x) {st : SortSt} {a nrem : Nat} {Q : AscSt → SortSt → Prop} (hn : lo + nrem ≤ a₀.size) (ha : 1 ≤ a) (han : a ≤ nrem) (F : Sf a₀ lo kd pd st) (u : Up rk (arrOf st) lo a)
    (h : ∀ n, a ≤ n → n ≤ nrem → Up rk (arrOf st) lo n → (n = nrem ∨ kr rk (arrOf st) (lo + n) < kr rk (arrOf st) (lo + (n - 1))) → Q (none, n) st) : wpS (model prog w) A E s (ascO lo a nrem) Q st := by
  unfold ascO
  refine wpS_forRange (I := fun x c st' => st' = st ∧ c = (none, x) ∧ Up rk (arrOf st) lo x) ?step ?fin ⟨rfl, rfl, u⟩
  case fin =>
    rintro c st' ⟨rfl, rfl, u'⟩
    rw [show max a nrem = nrem by omega] at u' ⊢
    exact h nrem han (Nat.le_refl _) u' (.inl rfl)
  case step =>
    rintro x c st' hax hxn ⟨rfl, rfl, u'⟩
    refine wpS_bind (wpS_ltO ak d F (by show lo + x < _; omega) (by show lo + x - 1 < _; omega) ?_)
    dsimp only
    rw [show lo + x - 1 = lo + (x - 1) by omega]
    by_cases c : kr rk (arrOf st') (lo + x) < kr rk (arrOf st') (lo + (x - 1))
    · rw [decide_eq_true c]
      exact wpS_pure (h x hax (by omega) u' (.inr c))
    · rw [decide_eq_false c]
      refine wpS_pure ⟨rfl, rfl, fun i j hij hj => ?_⟩
      by_cases e : j < x
      · exact u' i j hij e
      · have e' : j = x := by omega
        subst e'
        by_cases e2 : i = j
        · subst e2; exact Int.le_refl _
        · have := u' i (j - 1) (by omega) (by omega)
          omega
theorem wp_tailO (ak : Asks prog w A E s rk kd D) (d : ∀ x ∈ a₀.toList, D x) {st : SortSt} {n nrem : Nat} {Q : Option Nat → SortSt → Prop} (hn : lo + nrem ≤ a₀.size) (h1 : 1 ≤ n) (hnn : n ≤ nrem) (F : Sf a₀ lo kd pd st) (u : Dw rk (arrOf st) lo n)
    (h : ∀ m st', Sf a₀ lo kd pd st' → 1 ≤ m → m ≤ nrem → Up rk (arrOf st') lo m → Q (some m) st') : wpS (model prog w) A E s (tailO lo n nrem) Q st := by
  unfold tailO
  have sz := F.size
  refine wpS_bind (wpS_reverse ?_)
  have F' := F.rev (i := lo) (j := lo + n) (Nat.le_refl _) (by omega)
  refine wpS_bind (wpS_mono (m := ascO lo n nrem) (wp_ascO ak d (Q := fun c st' => ∃ m, c = (none, m) ∧ Sf a₀ lo kd pd st' ∧ 1 ≤ m ∧ m ≤ nrem ∧ Up rk (arrOf st') lo m) hn h1 hnn F' (fun i j hij hj => ?_) fun m hm1 hm2 hu _ => ⟨m, rfl, F', by omega, hm2, hu⟩) ?_)
  · show kr rk (mirror (arrOf st) lo (lo + n) ((lo + n - lo) / 2)) _ ≤ kr rk (mirror (arrOf st) lo (lo + n) ((lo + n - lo) / 2)) _
    rw [kr_rev (by omega), kr_rev (by omega), if_pos (by omega), if_pos (by omega)]
    have := u (n - 1 - j) (n - 1 - i) (by omega) (by omega)
    rw [show lo + (lo + n) - 1 - (lo + i) = lo + (n - 1 - i) by omega, show lo + (lo + n) - 1 - (lo + j) = lo + (n - 1 - j) by omega]
    exact this
  · rintro c st' ⟨m, rfl, F2, a1, a2, a3⟩
    exact wpS_pure (h m st' F2 a1 a2 a3)
theorem dw_snoc {xs : Array Keyed} {n : Nat} (u : Dw rk xs lo n) (h1 : 1 ≤ n) (h : kr rk xs (lo + n) ≤ kr rk xs (lo + (n - 1))) : Dw rk xs lo (n + 1) := fun i j hij hj => by
  by_cases e : j < n
  · exact u i j hij e
  · have e' : j = n := by omega
    subst e'
    by_cases e2 : i = j
    · subst e2; exact Int.le_refl _
    · have := u i (j - 1) (by omega) (by omega)
      omega
theorem kr_even {xs : Array Keyed} {i j : Nat} (hj : j ≤ xs.size) (h : ∀ k, i ≤ k → k < j → kr rk xs k = kr rk xs (j - 1)) (k : Nat) : kr rk (mirror xs i j ((j - i) / 2)) k = kr rk xs k := by
  rw [kr_rev hj]
  split
  · rw [h _ (by omega) (by omega), h k (by omega) (by omega)]
  · rfl
theorem wp_descO (ak : Asks prog w A E s rk kd D) (d : ∀ x ∈ a₀.toList, D x) {st : SortSt} {n nrem : Nat} {Q : Option Nat → SortSt → Prop} (hn : lo + nrem ≤ a₀.size) (hnn : n + 1 ≤ nrem) (F : Sf a₀ lo kd pd st) (u : Dw rk (arrOf st) lo (n + 1))
    (h : ∀ m st', Sf a₀ lo kd pd st' → 1 ≤ m → m ≤ nrem → Up rk (arrOf st') lo m → Q (some m) st') : wpS (model prog w) A E s (descO lo n nrem) Q st := by
  unfold descO
  refine wpS_bind (wpS_lift (wpAny_rule ⟨rfl, ?_⟩))
  refine wpS_bind (wpS_mono (wpS_forRange (I := fun x c st' => ∃ neq, c = (none, x, neq) ∧ Sf a₀ lo kd pd st' ∧ 1 ≤ x ∧ x ≤ nrem ∧ Dw rk (arrOf st') lo x ∧ neq + 1 ≤ x ∧ ∀ k, lo + x - (neq + 1) ≤ k → k < lo + x → kr rk (arrOf st') k = kr rk (arrOf st') (lo + x - 1))
    (Q := fun c st' => ∃ x neq, c = (none, x, neq) ∧ Sf a₀ lo kd pd st' ∧ 1 ≤ x ∧ x ≤ nrem ∧ Dw rk (arrOf st') lo x ∧ neq + 1 ≤ x ∧ ∀ k, lo + x - (neq + 1) ≤ k → k < lo + x → kr rk (arrOf st') k = kr rk (arrOf st') (lo + x - 1)) ?_ ?_ ⟨0, rfl, F, by omega, hnn, u, by omega, fun k k1 k2 => by congr 1; omega⟩) ?_)
  · rintro x c st' hx1 hx2 ⟨neq, rfl, F', x1, xn, u', q1, q2⟩
    have sz := F'.size
    refine wpS_bind (wpS_ltO ak d F' (by show lo + x < _; omega) (by show lo + x - 1 < _; omega) ?_)
    dsimp only
    have ex : lo + x - 1 = lo + (x - 1) := by omega
    by_cases c : kr rk (arrOf st') (lo + x) < kr rk (arrOf st') (lo + x - 1)
    · rw [decide_eq_true c]
      have u2 : ∀ ys : Array Keyed, (∀ k, kr rk ys k = kr rk (arrOf st') k) → Dw rk ys lo (x + 1) := fun ys hy i j hij hj => by
        rw [hy, hy]
        exact dw_snoc u' x1 (by rw [← ex]; omega) i j hij hj
      show wpS _ _ _ _ (if neq > 0 then _ else _) _ _
      by_cases n0 : neq > 0
      · rw [if_pos n0]
        refine wpS_bind (wpS_reverse (wpS_pure ⟨0, rfl, F'.rev (by omega) (by omega), by omega, by omega, u2 _ (kr_even (by omega) q2), by omega, fun k k1 k2 => by congr 1; omega⟩))
      · rw [if_neg n0]
        exact wpS_pure ⟨0, rfl, F', by omega, by omega, u2 _ (fun _ => rfl), by omega, fun k k1 k2 => by congr 1; omega⟩
    · rw [decide_eq_false c]
      refine wpS_bind (wpS_ltO ak d F' (by show lo + x - 1 < _; omega) (by show lo + x < _; omega) ?_)
      dsimp only
      by_cases c2 : kr rk (arrOf st') (lo + x - 1) < kr rk (arrOf st') (lo + x)
      · rw [decide_eq_true c2]
        exact wpS_pure ⟨x, neq, rfl, F', x1, xn, u', q1, q2⟩
      · rw [decide_eq_false c2]
        have e : kr rk (arrOf st') (lo + x) = kr rk (arrOf st') (lo + x - 1) := by omega
        refine wpS_pure ⟨neq + 1, rfl, F', by omega, by omega, dw_snoc u' x1 (by rw [← ex]; omega), by omega, fun k k1 k2 => ?_⟩
        rw [show lo + (x + 1) - 1 = lo + x by omega]
        by_cases ek : k = lo + x
        · subst ek; rfl
        · rw [e]; exact q2 k (by omega) (by omega)
  · rintro c st' ⟨neq, rfl, F', x1, xn, u', q1, q2⟩
    exact ⟨_, neq, rfl, F', x1, xn, u', q1, q2⟩
  · rintro c st' ⟨x, neq, rfl, F', x1, xn, u', q1, q2⟩
    have sz := F'.size
    show wpS _ _ _ _ (if neq > 0 then _ else _) _ _
    by_cases n0 : neq > 0
    · rw [if_pos n0]
      refine wpS_bind (wpS_reverse ?_)
      refine wpS_mono (m := tailO lo x nrem) (wp_tailO ak d hn x1 xn (F'.rev (i := lo + x - (neq + 1)) (j := lo + x) (by omega) (by omega)) (fun i j hij hj => ?_) h) fun _ _ q => q
      show kr rk (mirror (arrOf st') _ _ _) _ ≤ kr rk (mirror (arrOf st') _ _ _) _
      rw [kr_even (i := lo + x - (neq + 1)) (j := lo + x) (by omega) q2, kr_even (i := lo + x - (neq + 1)) (j := lo + x) (by omega) q2]
      exact u' i j hij hj
    · rw [if_neg n0]
      exact wpS_mono (m := tailO lo x nrem) (wp_tailO ak d hn x1 xn F' u' h) fun _ _ q => q
theorem wp_count (ak : Asks prog w A E s rk kd D) (d : ∀ x ∈ a₀.toList, D x) {st : SortSt} {nrem : Nat} {Q : Option Nat → SortSt → Prop} (hn : lo + nrem ≤ a₀.size) (h1 : 1 ≤ nrem) (F : Sf a₀ lo kd pd st)
    (h : ∀ m st', Sf a₀ lo kd pd st' → 1 ≤ m → m ≤ nrem → Up rk (arrOf st') lo m → Q (some m) st') : wpS (model prog w) A E s (countRun' lo nrem) Q st := by
  rw [countRun'_eq]
  have sz := F.size
  refine wpS_bind (wpS_mono (m := ascO lo 1 nrem) (wp_ascO ak d (Q := fun c st' => st' = st ∧ ∃ n, c = (none, n) ∧ 1 ≤ n ∧ n ≤ nrem ∧ Up rk (arrOf st) lo n ∧ (n = nrem ∨ kr rk (arrOf st) (lo + n) < kr rk (arrOf st) (lo + (n - 1)))) hn (Nat.le_refl _) h1 F (fun i j hij hj => ?_) fun n a1 a2 a3 a4 => ⟨rfl, n, rfl, a1, a2, a3, a4⟩) ?_)
  · have : i = j := by omega
    subst this; exact Int.le_refl _
  rintro c st' ⟨rfl, n, rfl, n1, n2, u, hor⟩
  show wpS _ _ _ _ (if (n == nrem) = true then _ else _) _ _
  by_cases e : (n == nrem) = true
  · rw [if_pos e]
    exact wpS_pure (h n _ F n1 n2 u)
  · rw [if_neg e]
    have e' : n ≠ nrem := by simpa using e
    have lt := hor.resolve_left e'
    by_cases g : n > 1
    · show wpS _ _ _ _ (if n > 1 then _ else _) _ _
      rw [if_pos g]
      refine wpS_bind (wpS_ltO ak d F (by omega) (by omega) ?_)
      have ex : lo + n - 1 = lo + (n - 1) := by omega
      by_cases c : kr rk (arrOf st') lo < kr rk (arrOf st') (lo + n - 1)
      · rw [decide_eq_true c]
        exact wpS_pure (h n _ F n1 n2 u)
      · rw [decide_eq_false c]
        have all : ∀ k, lo ≤ k → k < lo + n → kr rk (arrOf st') k = kr rk (arrOf st') (lo + n - 1) := fun k k1 k2 => by
          have a1 := u 0 (k - lo) (by omega) (by omega)
          have a2 := u (k - lo) (n - 1) (by omega) (by omega)
          rw [show lo + (k - lo) = k by omega] at a1 a2
          rw [Nat.add_zero] at a1
          rw [ex] at c ⊢
          omega
        refine wpS_bind (wpS_reverse ?_)
        refine wpS_mono (m := descO lo n nrem) (wp_descO ak d hn (by omega) (F.rev (Nat.le_refl _) (by omega)) (fun i j hij hj => ?_) h) fun _ _ q => q
        show kr rk (mirror (arrOf st') _ _ _) _ ≤ kr rk (mirror (arrOf st') _ _ _) _
        rw [kr_even (i := lo) (j := lo + n) (by omega) all, kr_even (i := lo) (j := lo + n) (by omega) all]
        by_cases ej : j < n
        · rw [all (lo + i) (by omega) (by omega), all (lo + j) (by omega) (by omega)]; exact Int.le_refl _
        · have ej' : j = n := by omega
          subst ej'
          by_cases ei : i = j
          · subst ei; exact Int.le_refl _
          · rw [all (lo + i) (by omega) (by omega), ex]; omega
    · show wpS _ _ _ _ (if n > 1 then _ else _) _ _
      rw [if_neg g]
      have e1 : n = 1 := by omega
      subst e1
      refine wpS_mono (m := descO lo 1 nrem) (wp_descO ak d hn (by omega) F (fun i j hij hj => ?_) h) fun _ _ q => q
      by_cases ei : i = j
      · subst ei; exact Int.le_refl _
      · have ei' : i = 0 := by omega
        have ej' : j = 1 := by omega
        subst ei' ej'
        exact Int.le_of_lt lt
theorem wp_bins (ak : Asks prog w A E s rk kd D) (d : ∀ x ∈ a₀.toList, D x) {st : SortSt} {n ok : Nat} {Q : Bool → SortSt → Prop} (hn : lo + n ≤ a₀.size) (hok : ok ≤ n) (F : Sf a₀ lo kd pd st) (u : Up rk (arrOf st) lo ok)
    (h : ∀ st', Sf a₀ lo kd pd st' → Up rk (arrOf st') lo n → Q true st') : wpS (model prog w) A E s (binarySort' lo n ok) Q st := by
  rw [binarySort'_eq]
  refine wpS_bind (wpS_mono (wpS_forRange (I := fun k c st' => c = (none, ()) ∧ Sf a₀ lo kd pd st' ∧ Up rk (arrOf st') lo (min k n))
    (Q := fun c st' => c = (none, ()) ∧ Sf a₀ lo kd pd st' ∧ Up rk (arrOf st') lo n) ?_ ?_ ⟨rfl, F, fun i j hij hj => ?_⟩) ?_)
  · rintro k c st' hak hkn ⟨rfl, F', u'⟩
    rw [show min k n = k by omega] at u'
    have sz := F'.size
    refine wpS_bind (wpS_mono (wpS_forRange (I := fun x c st'' => st'' = st' ∧ ∃ l r, c = (none, l, r) ∧ l ≤ r ∧ r ≤ k ∧ r - l ≤ k - x ∧ (∀ i, i < l → kr rk (arrOf st') (lo + i) ≤ kr rk (arrOf st') (lo + k)) ∧ (∀ i, r ≤ i → i < k → kr rk (arrOf st') (lo + k) < kr rk (arrOf st') (lo + i)))
      (Q := fun c st'' => st'' = st' ∧ ∃ l r, c = (none, l, r) ∧ l ≤ k ∧ (∀ i, i < l → kr rk (arrOf st') (lo + i) ≤ kr rk (arrOf st') (lo + k)) ∧ (∀ i, l ≤ i → i < k → kr rk (arrOf st') (lo + k) < kr rk (arrOf st') (lo + i))) ?_ ?_ ⟨rfl, 0, k, rfl, by omega, by omega, by omega, fun i hi => by omega, fun i h1 h2 => by omega⟩) ?_)
    · rintro x c st2 _ hx ⟨rfl, l, r, rfl, lr, rk', m, a1, a2⟩
      show wpS _ _ _ _ (if l ≥ r then _ else _) _ _
      by_cases g : l ≥ r
      · rw [if_pos g]
        have : l = r := by omega
        subst this
        exact wpS_pure ⟨rfl, l, l, rfl, rk', a1, a2⟩
      · rw [if_neg g]
        refine wpS_bind (wpS_ltO ak d F' (by omega) (by show lo + (l + r) / 2 < _; omega) ?_)
        dsimp only
        by_cases c : kr rk (arrOf st2) (lo + k) < kr rk (arrOf st2) (lo + (l + r) / 2)
        · rw [decide_eq_true c]
          refine wpS_pure ⟨rfl, l, (l + r) / 2, rfl, by omega, by omega, by omega, a1, fun i h1 h2 => ?_⟩
          exact Int.lt_of_lt_of_le c (u' _ _ h1 h2)
        · rw [decide_eq_false c]
          refine wpS_pure ⟨rfl, (l + r) / 2 + 1, r, rfl, by omega, by omega, by omega, fun i h1 => ?_, a2⟩
          exact Int.le_trans (u' i ((l + r) / 2) (by omega) (by omega)) (Int.not_lt.mp c)
    · rintro c st2 ⟨rfl, l, r, rfl, lr, rk', m, a1, a2⟩
      have : l = r := by omega
      subst this
      exact ⟨rfl, l, l, rfl, rk', a1, a2⟩
    · rintro c st2 ⟨rfl, l, r, rfl, lk, a1, a2⟩
      show wpS _ _ _ _ (do moveDown' (lo + k) (lo + l); pure (ForInStep.yield (none, ()))) _ _
      rw [moveDown'_eq]
      have ed : lo + k - (lo + l) = k - l := by omega
      refine wpS_bind (wpS_modify (wpS_pure ⟨rfl, F'.arr (bubble_perm _ _ _) fun i hi => ?_, fun i j hij hj => ?_⟩))
      · rw [getElem?_bubble (by omega) _ (by omega), if_neg (by omega), if_neg (by omega)]
      · rw [show min (k + 1) n = k + 1 by omega] at hj
        show kr rk (bubble (arrOf st2) (lo + k) (lo + k - (lo + l))) _ ≤ kr rk (bubble (arrOf st2) (lo + k) (lo + k - (lo + l))) _
        rw [kr_bub (by omega) (by omega), kr_bub (by omega) (by omega), ed, show lo + k - (k - l) = lo + l by omega]
        have p1 : ∀ z, z < k + 1 → lo + z - 1 = lo + (z - 1) ∨ z = 0 := fun z hz => by omega
        by_cases ej : j = l
        · subst ej
          rw [if_pos rfl]
          by_cases ei : i = j
          · subst ei; rw [if_pos rfl]; exact Int.le_refl _
          · rw [if_neg (by omega), if_neg (by omega)]
            exact a1 i (by omega)
        · rw [if_neg (c := lo + j = lo + l) (by omega)]
          by_cases ej2 : l < j
          · rw [if_pos (c := lo + l < lo + j ∧ lo + j ≤ lo + k) (by omega), show lo + j - 1 = lo + (j - 1) by omega]
            by_cases ei : i = l
            · subst ei
              rw [if_pos rfl]
              exact Int.le_of_lt (a2 _ (by omega) (by omega))
            · rw [if_neg (c := lo + i = lo + l) (by omega)]
              by_cases ei2 : l < i
              · rw [if_pos (by omega), show lo + i - 1 = lo + (i - 1) by omega]
                exact u' _ _ (by omega) (by omega)
              · rw [if_neg (by omega)]
                exact u' _ _ (by omega) (by omega)
          · rw [if_neg (c := lo + l < lo + j ∧ lo + j ≤ lo + k) (by omega), if_neg (by omega), if_neg (by omega)]
            exact u' _ _ (by omega) (by omega)
  · rintro c st' ⟨hc, F', u'⟩
    refine ⟨hc, F', ?_⟩
    rwa [show min (max (max ok 1) n) n = n by omega] at u'
  · by_cases o0 : ok = 0
    · have : i = j := by omega
      subst this; exact Int.le_refl _
    · exact u i j hij (by omega)
  · rintro c st' ⟨rfl, F', u'⟩
    exact wpS_pure (h st' F' u')
end
end L2
namespace L2
open PySem PySem.Spec PyProof.Rows
def offs : Nat → List (List Keyed) → List (Nat × Nat)
  | _, [] => []
  | k, R :: Rs => (k, R.length) :: offs (k + R.length) Rs
theorem offs_app : ∀ (k : Nat) (U V : List (List Keyed)), offs k (U ++ V) = offs k U ++ offs (k + U.flatten.length) V
  | k, [], V => by simp [offs]
  | k, R :: U, V => by
    show (k, R.length) :: offs (k + R.length) (U ++ V) = (k, R.length) :: (offs (k + R.length) U ++ _)
    rw [offs_app (k + R.length) U V]
    congr 3
    simp
    omega
theorem offs_len : ∀ (k : Nat) (U : List (List Keyed)), (offs k U).length = U.length
  | _, [] => rfl
  | k, R :: U => by simp [offs, offs_len]
def pr2 (t : Nat × Nat × Nat) : Nat × Nat := (t.1, t.2.1)
def RI (rk : Keyed → Int) (kd : SortKind) (a₀ : Array Keyed) (rest : List Keyed) (m : Nat) (st : SortSt) : Prop := ∃ Rs : List (List Keyed), (arrOf st).toList = Rs.flatten ++ rest ∧ (pendingOf st).toList.map pr2 = offs 0 Rs ∧ (∀ R ∈ Rs, R ≠ [] ∧ Srd rk R) ∧ Rs.length = m ∧ kindOf st = kd ∧ failedOf st = none ∧ (arrOf st).toList.Perm a₀.toList
section
variable {prog : Program} {w : World} {A : Around} {E : Value → Shared → Prop} {s : Shared} {rk : Keyed → Int} {kd : SortKind} {D : Keyed → Prop} {a₀ : Array Keyed} {rest : List Keyed}
theorem RI.psize {m : Nat} {st : SortSt} (h : RI rk kd a₀ rest m st) : (pendingOf st).size = m := by
  obtain ⟨Rs, _, e, _, rfl, _⟩ := h
  have := congrArg List.length e
  rw [offs_len] at this
  simpa using this
theorem wp_mergeRI (ak : Asks prog w A E s rk kd D) (d : ∀ x ∈ a₀.toList, D x) {i m : Nat} {st : SortSt} {Q : Bool → SortSt → Prop} (h : RI rk kd a₀ rest m st) (hi : i + 1 < m) (hq : ∀ st', RI rk kd a₀ rest (m - 1) st' → Q true st') : wpS (model prog w) A E s (mergeAt' i) Q st := by
  obtain ⟨Rs, e, ep, hR, rfl, hk, hf, hp⟩ := h
  obtain ⟨U, X, Y, V, rfl, hU⟩ : ∃ U X Y V, Rs = U ++ X :: Y :: V ∧ U.length = i := by
    refine ⟨Rs.take i, Rs[i], Rs[i + 1], Rs.drop (i + 2), ?_, by simp; omega⟩
    rw [← List.drop_eq_getElem_cons, ← List.drop_eq_getElem_cons, List.take_append_drop]
  rw [offs_app] at ep
  obtain ⟨pu, pt, ept, epu, e2⟩ := List.map_eq_append_iff.mp ep
  obtain ⟨p, pt2, rfl, ep1, e3⟩ := List.map_eq_cons_iff.mp e2
  obtain ⟨q, pv, rfl, eq1, e4⟩ := List.map_eq_cons_iff.mp e3
  obtain ⟨a, b, c⟩ := p
  obtain ⟨a', b', c'⟩ := q
  injection ep1 with ea eb
  injection eq1 with ea' eb'
  have eb : b = X.length := eb
  have ea : a = 0 + U.flatten.length := ea
  have ea' : a' = 0 + U.flatten.length + X.length := ea'
  have eb' : b' = Y.length := eb'
  rw [Nat.zero_add] at ea ea'
  subst ea eb ea' eb'
  have lu : pu.length = i := by
    have := congrArg List.length epu
    rw [offs_len] at this
    simpa [hU] using this
  have g1 : (pendingOf st)[i]? = some (U.flatten.length, X.length, c) := by
    rw [← Array.getElem?_toList, ept, List.getElem?_append_right (by omega), lu, Nat.sub_self]
    rfl
  have g2 : (pendingOf st)[i + 1]? = some (U.flatten.length + X.length, Y.length, c') := by
    rw [← Array.getElem?_toList, ept, List.getElem?_append_right (by omega), lu, show i + 1 - i = 1 by omega]
    rfl
  have hX := hR X (by simp)
  have hY := hR Y (by simp)
  refine wpS_mergeAt ak (P := U.flatten) (X := X) (Y := Y) (S := V.flatten ++ rest) hk hf (by rw [e]; simp) (fun x hx => d x (hp.mem_iff.mp hx)) g1 g2 hX.2 hY.2 hX.1 hY.1 fun st' M hk' hf' hp' ea' dn => ?_
  refine hq st' ⟨U ++ M :: V, by rw [ea']; simp, ?_, fun R hR' => ?_, by simp, hk', hf', ?_⟩
  · rw [hp', Array.toList_eraseIdxIfInBounds, Array.toList_setIfInBounds, ept, offs_app, List.set_append_right _ _ (by omega), lu, Nat.sub_self, List.eraseIdx_append_of_length_le (by omega), lu, show i + 1 - i = 1 by omega]
    rw [List.map_append, epu]
    congr 1
    show (pr2 (U.flatten.length, X.length + Y.length, c)) :: pv.map pr2 = (0 + U.flatten.length, M.length) :: offs (0 + U.flatten.length + M.length) V
    have lm : M.length = X.length + Y.length := by rw [dn.1.length_eq]; simp
    rw [e4, lm]
    unfold pr2
    rw [Nat.zero_add, Nat.add_assoc]
  · rcases List.mem_append.mp hR' with z | z
    · exact hR R (by simp [z])
    · rcases List.mem_cons.mp z with z | z
      · subst z
        refine ⟨fun z => hX.1 ?_, dn.2⟩
        have := dn.1.length_eq
        rw [z] at this
        simp at this
        exact List.length_eq_zero_iff.mp (by omega)
      · exact hR R (by simp [z])
  · rw [ea']
    refine List.Perm.trans ?_ hp
    rw [e]
    have : (U ++ X :: Y :: V).flatten ++ rest = U.flatten ++ ((X ++ Y) ++ (V.flatten ++ rest)) := by simp
    rw [this]
    exact List.Perm.append_left _ (List.Perm.append_right _ dn.1)
theorem up_srd {xs : Array Keyed} {P T : List Keyed} {n : Nat} (e : xs.toList = P ++ T) (u : Up rk xs P.length n) (hn : n ≤ T.length) : Srd rk (T.take n) := by
  refine List.pairwise_iff_getElem.mpr fun i j hi hj hij => ?_
  rw [List.length_take] at hi hj
  have g : ∀ k, (h : k < T.length) → kr rk xs (P.length + k) = rk T[k] := fun k h => by
    unfold kr
    rw [← Array.getElem?_toList, e, List.getElem?_append_right (by omega), show P.length + k - P.length = k by omega, List.getElem?_eq_getElem h]
  have := u i j (by omega) (by omega)
  rw [g i (by omega), g j (by omega)] at this
  rw [List.getElem_take, List.getElem_take]
  exact this
theorem RI.found {m n : Nat} {st st' : SortSt} {pd : Array (Nat × Nat × Nat)} {lo : Nat} (h : RI rk kd a₀ rest m st) (hl : lo + rest.length = a₀.size) (F : Sf (arrOf st) lo kd (pendingOf st) st') (u : Up rk (arrOf st') lo n) (hn : n ≤ rest.length) :
    ∃ rest', RI rk kd a₀ rest' m st' ∧ rest'.length = rest.length ∧ Srd rk (rest'.take n) := by
  obtain ⟨Rs, e, ep, hR, rfl, hk, hf, hp⟩ := h
  have sz : (arrOf st).toList.length = a₀.size := by rw [hp.length_eq]; simp
  have lf : Rs.flatten.length = lo := by rw [e] at sz; simp at sz ⊢; omega
  have et : (arrOf st').toList.take lo = Rs.flatten := by
    refine List.ext_getElem? fun k => ?_
    by_cases c : k < lo
    · rw [List.getElem?_take_of_lt c, Array.getElem?_toList, F.low k c, ← Array.getElem?_toList, e, List.getElem?_append_left (by omega)]
    · rw [List.getElem?_take_eq_none (by omega), List.getElem?_eq_none (by omega)]
  have ed : (arrOf st').toList = Rs.flatten ++ (arrOf st').toList.drop lo := by rw [← et, List.take_append_drop]
  have pt : (arrOf st').toList.Perm (arrOf st).toList := Array.perm_iff_toList_perm.mp F.perm
  have ld : ((arrOf st').toList.drop lo).length = rest.length := by
    have := pt.length_eq
    rw [List.length_drop, this, sz]
    omega
  refine ⟨(arrOf st').toList.drop lo, ⟨Rs, ed, by rw [F.pend]; exact ep, hR, rfl, F.kind, F.failed, pt.trans hp⟩, ld, ?_⟩
  exact up_srd (P := Rs.flatten) ed (by rw [lf]; exact u) (by rw [ld]; exact hn)
theorem RI.pushed {m n : Nat} {st : SortSt} {lo : Nat} (h : RI rk kd a₀ rest m st) (hl : lo + rest.length = a₀.size) (sr : Srd rk (rest.take n)) (h1 : 1 ≤ n) (hn : n ≤ rest.length) : RI rk kd a₀ (rest.drop n) (m + 1) (setPending st ((pendingOf st).push (lo, n, 0))) := by
  obtain ⟨Rs, e, ep, hR, rfl, hk, hf, hp⟩ := h
  have sz : (arrOf st).toList.length = a₀.size := by rw [hp.length_eq]; simp
  have lf : Rs.flatten.length = lo := by rw [e] at sz; simp at sz ⊢; omega
  refine ⟨Rs ++ [rest.take n], ?_, ?_, fun R hR' => ?_, by simp, hk, hf, hp⟩
  · show (arrOf st).toList = _
    rw [e]; simp
  · show ((pendingOf st).push (lo, n, 0)).toList.map pr2 = _
    rw [Array.toList_push, List.map_append, ep, offs_app, lf]
    simp [offs, pr2]
    try omega
  · rcases List.mem_append.mp hR' with z | z
    · exact hR R z
    · rw [List.mem_singleton.mp z]
      refine ⟨fun z => ?_, sr⟩
      have := congrArg List.length z
      rw [List.length_take, List.length_nil] at this
      omega
theorem RI.power {m pw : Nat} {st : SortSt} (h : RI rk kd a₀ rest m st) : RI rk kd a₀ rest m (setPending st ((pendingOf st).modify ((pendingOf st).size - 1) fun (st, len, _) => (st, len, pw))) := by
  obtain ⟨Rs, e, ep, hR, rfl, hk, hf, hp⟩ := h
  refine ⟨Rs, e, ?_, hR, rfl, hk, hf, hp⟩
  rw [← ep]
  show ((pendingOf st).modify ((pendingOf st).size - 1) fun (st, len, _) => (st, len, pw)).toList.map pr2 = _
  refine List.ext_getElem? fun k => ?_
  rw [List.getElem?_map, List.getElem?_map, Array.getElem?_toList, Array.getElem?_toList, Array.getElem?_modify]
  split
  · rename_i z
    cases (pendingOf st)[k]? with
    | none => rfl
    | some t => rfl
  · rfl
theorem minRun_pos : ∀ (f n r : Nat), 1 ≤ n → 1 ≤ minRun' f n r
  | 0, n, r, h => by show 1 ≤ n + r; omega
  | f + 1, n, r, h => by
    rw [minRun'_succ]
    split
    · omega
    · exact minRun_pos f _ _ (by omega)
theorem wp_sortRuns (ak : Asks prog w A E s rk kd D) (d : ∀ x ∈ a₀.toList, D x) {st : SortSt} {Q : Unit → SortSt → Prop} (h0 : arrOf st = a₀) (hk : kindOf st = kd) (hf : failedOf st = none) (hp : pendingOf st = #[])
    (h : ∀ st', failedOf st' = none → Dn rk a₀.toList (arrOf st').toList → Q () st') : wpS (model prog w) A E s sortRuns' Q st := by
  rw [sortRuns'_eq]
  refine wpS_bind (wpS_get ?_)
  rw [h0]
  have I0 : RI rk kd a₀ a₀.toList 0 st := ⟨[], by rw [h0]; rfl, by rw [hp]; rfl, fun R hR => (by cases hR), rfl, hk, hf, by rw [h0]⟩
  refine wpS_bind (wpS_mono (wpS_forRange (I := fun x c st' => ∃ rest m lo, c = (none, lo) ∧ RI rk kd a₀ rest m st' ∧ lo + rest.length = a₀.size ∧ x ≤ lo)
    (Q := fun c st' => ∃ m lo, c = (none, lo) ∧ RI rk kd a₀ [] m st') ?_ ?_ ⟨_, 0, 0, rfl, I0, by simp, Nat.le_refl _⟩) ?_)
  · rintro x c st' _ hx ⟨rest, m, lo, rfl, R, hl, hxl⟩
    by_cases g : lo ≥ a₀.size
    · show wpS _ _ _ _ (if lo ≥ a₀.size then _ else _) _ _
      rw [if_pos g]
      have : rest = [] := List.length_eq_zero_iff.mp (by omega)
      subst this
      exact wpS_pure ⟨m, lo, rfl, R⟩
    · show wpS _ _ _ _ (if lo ≥ a₀.size then _ else _) _ _
      rw [if_neg g]
      obtain ⟨Rs, eR, ep, hR, eM, hk', hf', hp'⟩ := R
      have R : RI rk kd a₀ rest m st' := ⟨Rs, eR, ep, hR, eM, hk', hf', hp'⟩
      have sz : (arrOf st').size = a₀.size := by
        have := hp'.length_eq
        simpa using this
      have F : Sf (arrOf st') lo kd (pendingOf st') st' := ⟨Array.Perm.refl _, hk', hf', rfl, fun _ _ => rfl⟩
      refine wpS_bind (wp_count ak (fun x hx => d x (hp'.mem_iff.mp hx)) (lo := lo) (nrem := a₀.size - lo) (by omega) (by omega) F fun n st2 F2 n1 n2 u2 => ?_)
      have mp := minRun_pos a₀.size a₀.size 0 (by omega)
      have key : ∀ (n : Nat) (st2 : SortSt), Sf (arrOf st') lo kd (pendingOf st') st2 → Up rk (arrOf st2) lo n → 1 ≤ n → n ≤ rest.length → ∃ rest', RI rk kd a₀ rest' m st2 ∧ rest'.length = rest.length ∧ Srd rk (rest'.take n) ∧ 1 ≤ n ∧ n ≤ rest'.length := fun n st2 F2 u2 h1 hn => by
        obtain ⟨rest', R2, l2, s2⟩ := R.found (pd := #[]) hl F2 u2 hn
        exact ⟨rest', R2, l2, s2, h1, by omega⟩
      by_cases c : n < minRun' a₀.size a₀.size 0
      · show wpS _ _ _ _ (if n < minRun' a₀.size a₀.size 0 then _ else _) _ _
        rw [if_pos c]
        refine wpS_bind (wpS_lift (wpAny_rule ⟨rfl, ?_⟩))
        refine wpS_bind (wp_bins ak (fun x hx => d x (hp'.mem_iff.mp hx)) (lo := lo) (n := min (a₀.size - lo) (minRun' a₀.size a₀.size 0)) (by omega) (by omega) F2 u2 fun st3 F3 u3 => ?_)
        rw [if_neg (by decide)]
        obtain ⟨rest', R2, l2, s2, b1, b2⟩ := key _ st3 F3 u3 (by omega) (by omega)
        dsimp only
        generalize min (a₀.size - lo) (minRun' a₀.size a₀.size 0) = nn at s2 b1 b2 ⊢
        refine wpS_bind (wpS_get ?_)
        have fin : ∀ (m' : Nat) (st4 : SortSt), RI rk kd a₀ rest' m' st4 → ∃ rest m lo', ((none, lo + nn) : Option Unit × Nat) = (none, lo') ∧ RI rk kd a₀ rest m (setPending st4 ((pendingOf st4).push (lo, nn, 0))) ∧ lo' + rest.length = a₀.size ∧ x + 1 ≤ lo' := fun m' st4 R4 => ⟨_, _, _, rfl, RI.pushed R4 (by omega) s2 b1 b2, by rw [List.length_drop]; omega, by omega⟩
        generalize (pendingOf st3).back? = bk
        rcases bk with _ | ⟨s1, n1, p3⟩
        · refine wpS_bind (wpS_modify ?_)
          exact wpS_pure (fin _ _ R2)
        · dsimp only
          refine wpS_bind (wpS_mono (wpS_forRange (I := fun _ c st' => c = (none, ()) ∧ ∃ m, RI rk kd a₀ rest' m st') (Q := fun c st' => c = (none, ()) ∧ ∃ m, RI rk kd a₀ rest' m st') ?_ (fun _ _ z => z) ⟨rfl, m, R2⟩) ?_)
          · rintro x c st5 _ hx ⟨rfl, m', R'⟩
            refine wpS_bind (wpS_get ?_)
            have sz := R'.psize
            have m2 : ∀ t, (if (pendingOf st5).size > 1 then (pendingOf st5)[(pendingOf st5).size - 2]? else none) = some t → 2 ≤ m' := fun t eo => by
              rcases Nat.lt_or_ge 1 (pendingOf st5).size with z | z
              · omega
              · rw [if_neg (by omega)] at eo; cases eo
            revert m2
            generalize (if (pendingOf st5).size > 1 then (pendingOf st5)[(pendingOf st5).size - 2]? else none) = bo
            intro m2
            rcases bo with _ | ⟨q1, q2, older⟩
            · exact wpS_pure ⟨rfl, m', R'⟩
            · dsimp only
              split
              · exact wpS_pure ⟨rfl, m', R'⟩
              · have := m2 _ rfl
                refine wpS_bind (wp_mergeRI ak d R' (by omega) fun st2 R2 => ?_)
                rw [if_neg (by decide)]
                exact wpS_pure ⟨rfl, m' - 1, R2⟩
          · rintro c st5 ⟨rfl, m', R'⟩
            refine wpS_bind (wpS_modify ?_)
            refine wpS_bind (wpS_modify ?_)
            exact wpS_pure (fin _ _ R'.power)
      · show wpS _ _ _ _ (if n < minRun' a₀.size a₀.size 0 then _ else _) _ _
        rw [if_neg c]
        obtain ⟨rest', R2, l2, s2, b1, b2⟩ := key _ st2 F2 u2 (by omega) (by omega)
        dsimp only
        refine wpS_bind (wpS_get ?_)
        have fin : ∀ (m' : Nat) (st4 : SortSt), RI rk kd a₀ rest' m' st4 → ∃ rest m lo', ((none, lo + n) : Option Unit × Nat) = (none, lo') ∧ RI rk kd a₀ rest m (setPending st4 ((pendingOf st4).push (lo, n, 0))) ∧ lo' + rest.length = a₀.size ∧ x + 1 ≤ lo' := fun m' st4 R4 => ⟨_, _, _, rfl, RI.pushed R4 (by omega) s2 b1 b2, by rw [List.length_drop]; omega, by omega⟩
        generalize (pendingOf st2).back? = bk
        rcases bk with _ | ⟨s1, n1, p3⟩
        · refine wpS_bind (wpS_modify ?_)
          exact wpS_pure (fin _ _ R2)
        · dsimp only
          refine wpS_bind (wpS_mono (wpS_forRange (I := fun _ c st' => c = (none, ()) ∧ ∃ m, RI rk kd a₀ rest' m st') (Q := fun c st' => c = (none, ()) ∧ ∃ m, RI rk kd a₀ rest' m st') ?_ (fun _ _ z => z) ⟨rfl, m, R2⟩) ?_)
          · rintro x c st3 _ hx ⟨rfl, m', R'⟩
            refine wpS_bind (wpS_get ?_)
            have sz := R'.psize
            have m2 : ∀ t, (if (pendingOf st3).size > 1 then (pendingOf st3)[(pendingOf st3).size - 2]? else none) = some t → 2 ≤ m' := fun t eo => by
              rcases Nat.lt_or_ge 1 (pendingOf st3).size with z | z
              · omega
              · rw [if_neg (by omega)] at eo; cases eo
            revert m2
            generalize (if (pendingOf st3).size > 1 then (pendingOf st3)[(pendingOf st3).size - 2]? else none) = bo
            intro m2
            rcases bo with _ | ⟨q1, q2, older⟩
            · exact wpS_pure ⟨rfl, m', R'⟩
            · dsimp only
              split
              · exact wpS_pure ⟨rfl, m', R'⟩
              · have := m2 _ rfl
                refine wpS_bind (wp_mergeRI ak d R' (by omega) fun st2 R2 => ?_)
                rw [if_neg (by decide)]
                exact wpS_pure ⟨rfl, m' - 1, R2⟩
          · rintro c st3 ⟨rfl, m', R'⟩
            refine wpS_bind (wpS_modify ?_)
            refine wpS_bind (wpS_modify ?_)
            exact wpS_pure (fin _ _ R'.power)
  · rintro c st' ⟨rest, m, lo, rfl, R, hl, hxl⟩
    have : rest = [] := List.length_eq_zero_iff.mp (by omega)
    subst this
    exact ⟨m, lo, rfl, R⟩
  · rintro c st' ⟨m, lo, rfl, R⟩
    have mle : m ≤ a₀.size := by
      obtain ⟨Rs, eR, ep, hR, rfl, hk', hf', hp'⟩ := R
      have : ∀ (L : List (List Keyed)), (∀ R ∈ L, R ≠ []) → L.length ≤ L.flatten.length := fun L => by
        induction L with
        | nil => intro _; simp
        | cons a L ih =>
          intro h
          have := ih fun R hR => h R (List.mem_cons_of_mem _ hR)
          have := List.length_pos_iff.mpr (h a (List.mem_cons_self ..))
          simp at *
          omega
      have h1 := this Rs fun R hR' => (hR R hR').1
      have h2 := hp'.length_eq
      rw [eR] at h2
      simp at h1 h2
      omega
    refine wpS_bind (wpS_mono (wpS_forRange (I := fun x c st' => c = (none, ()) ∧ ∃ m, RI rk kd a₀ [] m st' ∧ (m + x ≤ a₀.size ∨ m ≤ 1)) (Q := fun c st' => c = (none, ()) ∧ ∃ m, RI rk kd a₀ [] m st' ∧ m ≤ 1) ?_ ?_ ⟨rfl, m, R, .inl (by omega)⟩) ?_)
    · rintro x c st2 _ hx ⟨rfl, m', R', hm⟩
      have sz := R'.psize
      refine wpS_bind (wpS_get ?_)
      show wpS _ _ _ _ (if (pendingOf st2).size ≤ 1 then _ else _) _ _
      by_cases g : (pendingOf st2).size ≤ 1
      · rw [if_pos g]
        exact wpS_pure ⟨rfl, m', R', by omega⟩
      · rw [if_neg g]
        refine wpS_bind (wp_mergeRI ak d R' ?_ fun st3 R3 => ?_)
        · have le : ∀ (c : Prop) [Decidable c] (i : Nat), (if c then i - 1 else i) ≤ i := fun c _ i => by split <;> omega
          exact Nat.lt_of_le_of_lt (Nat.succ_le_succ (le _ _)) (by omega)
        · exact wpS_pure ⟨rfl, m' - 1, R3, by omega⟩
    · rintro c st2 ⟨rfl, m', R', hm⟩
      exact ⟨rfl, m', R', by omega⟩
    · rintro c st2 ⟨rfl, m', R', hm⟩
      refine wpS_pure (h _ ?_ ?_)
      · obtain ⟨Rs, eR, ep, hR, eM, hk', hf', hp'⟩ := R'
        exact hf'
      · obtain ⟨Rs, eR, ep, hR, rfl, hk', hf', hp'⟩ := R'
        refine ⟨hp', ?_⟩
        rw [eR]
        match Rs, hm, hR with
        | [], _, _ => exact List.Pairwise.nil
        | [X], _, hR => simpa using (hR X (by simp)).2
        | _ :: _ :: _, hm, _ => simp at hm
end
end L2
namespace L2
open PySem PySem.Spec PyProof.Rows PySem.W
section
variable {P : Program} {w : World} {A : Around} {E : Value → Shared → Prop} {s : Shared} {rk : Keyed → Int} {kd : SortKind} {D : Keyed → Prop}
theorem asks_of (h : ∀ x y : Keyed, D x → D y → ∀ Q : Bool → Shared → Prop, Q (decide (rk x < rk y)) s → wpAny (model P w) A (keyLt' kd x.1 y.1) Q (fun _ _ => False) s) : Asks P w A E s rk kd D := fun x y dx dy st Q hk hq => by
  rw [lt'_eq]
  refine wpS_bind (wpS_get ?_)
  rw [hk]
  refine wpS_bind (wpS_lift (wpAny_attempt (wpAny_mono (h x y dx dy (fun b s' => s' = s ∧ b = decide (rk x < rk y)) ⟨rfl, rfl⟩) (fun b s' z => ?_) fun _ _ (z : False) => z.elim)))
  obtain ⟨rfl, rfl⟩ := z
  exact ⟨rfl, wpS_pure hq⟩
theorem run_sort (ak : Asks P w A E s rk kd D) {pz : Array Keyed} (d : ∀ x ∈ pz.toList, D x) {Q : Unit × SortSt → Shared → Prop} (h : ∀ st', failedOf st' = none → Dn rk pz.toList (arrOf st').toList → Q ((), st') s) :
    wpAny (model P w) A (sortRuns'.run (SortSt.mk' kd pz #[] 7 none)) Q E s := by
  have := wp_sortRuns (a₀ := pz) (st := SortSt.mk' kd pz #[] 7 none) (Q := fun _ st' => Q ((), st') s) ak d rfl rfl rfl rfl h
  unfold wpS at this
  exact wpAny_mono this (fun r s' ⟨e, q⟩ => by subst e; exact q) fun _ _ e => e
end
def kLt (x y : List Str) : Bool := decide (x.length < y.length) || (decide (x.length = y.length) && ltL x y)
theorem kLt_irr (x : List Str) : kLt x x = false := by simp [kLt, ltL_irr]
theorem kLt_trans {x y z : List Str} (h : kLt x y = true) (h' : kLt y z = true) : kLt x z = true := by
  simp only [kLt, Bool.or_eq_true, Bool.and_eq_true, decide_eq_true_eq] at *
  rcases h with h | ⟨h, q⟩
  · rcases h' with h' | ⟨h', q'⟩
    · exact .inl (by omega)
    · exact .inl (by omega)
  · rcases h' with h' | ⟨h', q'⟩
    · exact .inl (by omega)
    · exact .inr ⟨by omega, ltL_trans _ _ _ q q'⟩
theorem kLt_tri (x y : List Str) : kLt x y = true ∨ x = y ∨ kLt y x = true := by
  simp only [kLt, Bool.or_eq_true, Bool.and_eq_true, decide_eq_true_eq]
  rcases Nat.lt_trichotomy x.length y.length with h | h | h
  · exact .inl (.inl h)
  · rcases ltL_tri x y with q | q | q
    · exact .inl (.inr ⟨h, q⟩)
    · exact .inr (.inl q)
    · exact .inr (.inr (.inr ⟨h.symm, q⟩))
  · exact .inr (.inr (.inl h))
theorem cnt_le {α : Type} {p q : α → Bool} : ∀ (l : List α), (∀ x ∈ l, p x = true → q x = true) → l.countP p ≤ l.countP q
  | [], _ => Nat.le_refl _
  | a :: l, h => by
    rw [List.countP_cons, List.countP_cons]
    have := cnt_le l fun x hx => h x (List.mem_cons_of_mem _ hx)
    have := h a (List.mem_cons_self ..)
    cases hp : p a <;> cases hq : q a <;> simp_all <;> omega
theorem cnt_lt {α : Type} {p q : α → Bool} : ∀ (l : List α), (∀ x ∈ l, p x = true → q x = true) → (∃ x ∈ l, q x = true ∧ p x = false) → l.countP p < l.countP q
  | [], _, ⟨_, h, _⟩ => by cases h
  | a :: l, h, ⟨x, hx, h1, h2⟩ => by
    rw [List.countP_cons, List.countP_cons]
    have le := cnt_le l fun x hx => h x (List.mem_cons_of_mem _ hx)
    have ha := h a (List.mem_cons_self ..)
    rcases List.mem_cons.mp hx with e | e
    · subst e
      rw [h1, h2]
      simp
      omega
    · have := cnt_lt l (fun x hx => h x (List.mem_cons_of_mem _ hx)) ⟨x, e, h1, h2⟩
      cases hp : p a <;> cases hq : q a <;> simp_all <;> omega
def rankT (ts : List (List Str)) (t : List Str) : Nat := ts.countP fun u => kLt u t
theorem rankT_lt {ts : List (List Str)} {x y : List Str} (hx : x ∈ ts) (h : kLt x y = true) : rankT ts x < rankT ts y := cnt_lt ts (fun u _ q => kLt_trans q h) ⟨x, hx, h, kLt_irr x⟩
theorem rankT_eq {ts : List (List Str)} {x y : List Str} (hx : x ∈ ts) (hy : y ∈ ts) : decide ((rankT ts x : Int) < (rankT ts y : Int)) = kLt x y := by
  rcases kLt_tri x y with h | h | h
  · have := rankT_lt hx h
    rw [h]; simp; omega
  · subst h
    rw [kLt_irr]; simp
  · have := rankT_lt hy h
    have z : kLt x y = false := by
      cases q : kLt x y with
      | false => rfl
      | true => have := kLt_trans q h; rw [kLt_irr] at this; cases this
    rw [z]; simp; omega
theorem perm_lift {α β : Type} {f : α → β} {m l0 : List β} (h : m.Perm l0) : ∀ l : List α, l0 = l.map f → ∃ l' : List α, l'.Perm l ∧ l'.map f = m := by
  induction h with
  | nil =>
    intro l e
    cases l with
    | nil => exact ⟨[], List.Perm.nil, rfl⟩
    | cons _ _ => cases e
  | cons x p ih =>
    intro l e
    cases l with
    | nil => cases e
    | cons a l =>
      injection e with e1 e2
      obtain ⟨l', p', q⟩ := ih l e2
      exact ⟨a :: l', p'.cons a, by rw [List.map_cons, q, ← e1]⟩
  | swap x y l1 =>
    intro l e
    match l, e with
    | a :: b :: l, e =>
      injection e with e1 e2
      injection e2 with e2 e3
      exact ⟨b :: a :: l, List.Perm.swap a b l, by rw [List.map_cons, List.map_cons, ← e1, ← e2, e3]⟩
  | trans p1 p2 ih1 ih2 =>
    intro l e
    obtain ⟨l1, q1, q2⟩ := ih2 l e
    obtain ⟨l2, q3, q4⟩ := ih1 l1 q2.symm
    exact ⟨l2, q3.trans q1, q4⟩
def KeyAt (h : Heap) (v : Value) (t : List Str) : Prop := ∃ (k a : Addr) (tok : Tok) (its : Array Value), v = .ref k ∧ IsTup h k #[.int t.length tok, .ref a] ∧ h.IsList a its ∧ StrsAre its.toList t
theorem KeyAt.uniq {h : Heap} {v : Value} {t u : List Str} (a : KeyAt h v t) (b : KeyAt h v u) : t = u := by
  obtain ⟨k, p, tok, its, rfl, ⟨o, e, c, n, d⟩, ⟨o1, e1, c1, n1, d1⟩, st⟩ := a
  obtain ⟨k2, p2, tok2, its2, ek, ⟨o', e', c', n', d'⟩, ⟨o2, e2, c2, n2, d2⟩, st2⟩ := b
  cases ek
  rw [e] at e'; cases e'
  rw [d] at d'
  injection d' with d' _
  have : [Value.int t.length tok, Value.ref p] = [Value.int u.length tok2, Value.ref p2] := congrArg Array.toList d'
  injection this with _ h2
  injection h2 with h2 _
  cases h2
  rw [e1] at e2; cases e2
  rw [d1] at d2
  injection d2 with d2 _
  subst d2
  rw [← st.strs, ← st2.strs]
section
variable {P : Program} {w : World} {A : Around} {E : Value → Shared → Prop} {s : Shared}
open SeqAt in
theorem eqAt_strs {a b : Addr} {i1 i2 : Array Value} {x y : List Str} (hu : A.units < cLine) (ha : s.heap.IsList a i1) (hb : s.heap.IsList b i2) (hx : StrsAre i1.toList x) (hy : StrsAre i2.toList y) : EqAt A s (.ref a) (.ref b) (decide (x = y)) := by
  by_cases e : a = b
  · subst e
    obtain ⟨o1, e1, c1, n1, d1⟩ := ha
    obtain ⟨o2, e2, c2, n2, d2⟩ := hb
    rw [e1] at e2; cases e2
    rw [d1] at d2
    injection d2 with d2 _
    subst d2
    have : x = y := by rw [← hx.strs, ← hy.strs]
    rw [decide_eq_true this]
    exact EqAt.same _
  · have l1 : i1.size = x.length := by rw [← hx.strs]; simp
    have l2 : i2.size = y.length := by rw [← hy.strs]; simp
    by_cases hs : i1.size = i2.size
    · have q := RcAt.lists (e := fun j => x.getD j "" == y.getD j "") ha hb hs hu fun j h1 h2 => by
        obtain ⟨t1, q1⟩ := strs_at hx (i := j) (by simpa using h1)
        obtain ⟨t2, q2⟩ := strs_at hy (i := j) (by simpa using h2)
        rw [Array.getElem?_toList, Array.getElem?_eq_getElem h1] at q1
        rw [Array.getElem?_toList, Array.getElem?_eq_getElem h2] at q2
        rw [Option.some.inj q1, Option.some.inj q2]
        exact EqAt.str_str _ _ _ _
      have eb : (List.range i1.size).all (fun j => x.getD j "" == y.getD j "") = decide (x = y) := by
        rw [Bool.eq_iff_iff]
        simp only [List.all_eq_true, List.mem_range, beq_iff_eq, decide_eq_true_eq]
        constructor
        · intro h
          refine List.ext_getElem (by omega) fun j h1 h2 => ?_
          have := h j (by omega)
          rw [List.getD_eq_getElem?_getD, List.getD_eq_getElem?_getD, List.getElem?_eq_getElem h1, List.getElem?_eq_getElem h2] at this
          exact this
        · intro h j _; rw [h]
      rw [eb] at q
      exact EqAt.of_refs e q
    · have ne : x ≠ y := fun z => hs (by rw [l1, l2, z])
      rw [decide_eq_false ne]
      exact EqAt.of_refs e (RcAt.lists_lengths ha hb (by simpa using hs) hu)
theorem ltAt_strs {l b : Addr} {items items2 : Array Value} {x y : List Str} {Q : Bool → Shared → Prop} (hu : A.units < cLine) (hl : s.heap.IsList l items) (hb : s.heap.IsList b items2) (hx : StrsAre items.toList x) (hy : StrsAre items2.toList y)
    (h : Q (ltL x y) s) : wpAny (model P w) A (oneLt' false (.ref l) (.ref b)) Q E s := by
  obtain ⟨⟨cls, dd, data, sl⟩, ho, hc, n, hd⟩ := hl
  obtain ⟨⟨cls2, dd2, data2, sl2⟩, ho2, hc2, n2, hd2⟩ := hb
  simp only at hc hd hc2 hd2
  subst hc hd hc2 hd2
  rw [oneLt'_eq]
  simp only [Bool.false_eq_true, if_false]
  refine wpAny_bind (richCompare_meets_room (op := .Lt) ⟨_, ho, rfl⟩ ⟨_, ho2, rfl⟩ F.slot_list_lt F.entry_list_lt (F.args_list_lt_2 _ _) (list_ltS l b items items2 n n2 dd dd2 sl sl2 x y hx hy) ⟨⟨ho, ho2⟩, ?_⟩ hu)
  refine ⟨(fun z => nomatch z), ?_⟩
  exact wpAny_truthy_bool h
theorem keyLt_T {x y : Value} {t u : List Str} {Q : Bool → Shared → Prop} (hu : A.units < cLine) (hx : KeyAt s.heap x t) (hy : KeyAt s.heap y u) (h : Q (kLt t u) s) : wpAny (model P w) A (keyLt' (tuples' true) x y) Q E s := by
  obtain ⟨k, a, tok, its, rfl, ⟨o, e, c, n, d⟩, ha, st⟩ := hx
  obtain ⟨k2, a2, tok2, its2, rfl, ⟨o', e', c', n', d'⟩, ha2, st2⟩ := hy
  refine kat_lt e d e' d' (kat_cons (wpAny_eqBool_int (kat_go (fun q => kat_yes (kat_cons (eqAt_strs hu ha ha2 st st2 _ _ _ _ (kat_go (fun q2 => kat_yes (kat_nil ?_)) fun q2 => kat_no ?_)))) fun q => kat_no ?_)))
  · have e1 : t.length = u.length := Int.ofNat.inj (eq_of_beq q)
    have e2 : t = u := of_decide_eq_true q2
    subst e2
    rw [kLt_irr] at h
    exact h
  · have e1 : t.length = u.length := Int.ofNat.inj (eq_of_beq q)
    refine ltAt_strs hu ha ha2 st st2 ?_
    have : kLt t u = ltL t u := by simp [kLt, e1]
    rw [this] at h
    exact h
  · have e1 : t.length ≠ u.length := by
      intro z
      rw [z] at q
      simp at q
    refine oneLt_int ?_
    have : kLt t u = decide ((t.length : Int) < (u.length : Int)) := by
      simp only [kLt]
      rw [decide_eq_false e1]
      simp
    rw [this] at h
    exact h
end
end L2
namespace L2
open PySem PySem.Spec PyProof.Rows PySem.W
def ExtH (H H' : Hp) : Prop := ∀ b o, H b = some o → H' b = some o
theorem sq_ext {K : PySem.W.Frag} {H H' : Hp} {l : Addr} {xs : List V} (e : ExtH H H') (hq : SqL K H l xs) : SqL K H' l xs := by
  rcases hq with (hq | ⟨o, hq⟩) | hq
  · exact .inl (.inl (e _ _ hq))
  · exact .inl (.inr ⟨o, e _ _ hq⟩)
  · exact .inr hq
theorem paired_len {α β : Type} {R : α → β → Prop} : ∀ {l : List α} {m : List β}, Paired R l m → l.length = m.length
  | _, _, .nil => rfl
  | _, _, .cons _ t => by rw [List.length_cons, List.length_cons, paired_len t]
theorem paired_imp {α β : Type} {R R' : α → β → Prop} (h : ∀ a b, R a b → R' a b) : ∀ {l : List α} {m : List β}, Paired R l m → Paired R' l m
  | _, _, .nil => .nil
  | _, _, .cons a t => .cons (h _ _ a) (paired_imp h t)
theorem paired_mem {α β : Type} {R R' : α → β → Prop} : ∀ {l : List α} {m : List β}, Paired R l m → (∀ a b, b ∈ m → R a b → R' a b) → Paired R' l m
  | _, _, .nil, _ => .nil
  | _, _, .cons a t, h => .cons (h _ _ (List.mem_cons_self ..) a) (paired_mem t fun a b hb => h a b (List.mem_cons_of_mem _ hb))
theorem paired_snoc {α β : Type} {R : α → β → Prop} {a : α} {b : β} : ∀ {l : List α} {m : List β}, Paired R l m → R a b → Paired R (l ++ [a]) (m ++ [b])
  | _, _, .nil, h => .cons h .nil
  | _, _, .cons q t, h => .cons q (paired_snoc t h)
theorem paired_zip {α β : Type} {R : α → β → Prop} : ∀ {l : List α} {m : List β}, Paired R l m → ∀ z ∈ l.zip m, R z.1 z.2
  | _, _, .nil, z, h => by cases h
  | _, _, .cons q t, z, h => by
    rcases List.mem_cons.mp h with e | e
    · rw [e]; exact q
    · exact paired_zip t z e
theorem keys_firsts {h : Heap} : ∀ {kA : List Value} {ps : List (Addr × List Str)}, Paired (fun v p => KeyAt h v p.2) kA ps → ∃ fs : List Value, KatTups h kA fs ∧ fs.length = kA.length ∧ ∀ f ∈ fs, ∃ n t, f = Value.int n t
  | _, _, .nil => ⟨[], KatTups.nil, rfl, fun f hf => by cases hf⟩
  | _, _, .cons a t => by
    obtain ⟨fs, k1, k2, k3⟩ := keys_firsts t
    obtain ⟨k, p, tok, its, rfl, ⟨o, e, c, n, d⟩, _, _⟩ := a
    refine ⟨_ :: fs, KatTups.cons e c d rfl k1, by rw [List.length_cons, List.length_cons, k2], fun f hf => ?_⟩
    rcases List.mem_cons.mp hf with z | z
    · exact ⟨_, tok, z⟩
    · exact k3 f z
section
variable {X : Cx}
theorem sk_endT {pins : List (Addr × Obj)} {σ : St} {H : Hp} {s : Shared} {a kS : Addr} {e1 : Nat} {kA : List Value} {ps : List (Addr × List Str)} {P : PySem.Fin → Shared → Prop} {A : Around} {E' : Value → Shared → Prop} {en : Nat}
    (I : Inv X ((kS, seqObj "list" kA.toArray en) :: (a, seqObj "list" #[] e1) :: pins) σ H s) (hk : kS ≠ a) (Hk : H kS = none) (Ha : H a = none) (wa : Aw X pins a) (wk : Aw X pins kS) (hu : A.units < cLine)
    (keys : Paired (fun v p => KeyAt s.heap v p.2) kA ps) (hn : ps.length ≤ 5000)
    (h : ∀ (s' : Shared) (ps' : List (Addr × List Str)), ps'.Perm ps → ps'.Pairwise (fun p q => kLt q.2 p.2 = false) → Inv X pins σ (upd H a (.lst (ps'.map fun p => V.ref p.1))) s' → P (.done (.ret .none)) s') :
    wpAny (model X.prog X.w) A (ksk_end a false (ps.map fun p => Value.ref p.1).toArray e1 (.ref kS) kA.toArray) P E' s := by
  have lk := paired_len keys
  have ok : s.heap.get? kS = some (seqObj "list" kA.toArray en) := (I.pin (kS, _) (List.mem_append_right _ (.head _))).1
  have ez : (kA.toArray.zip (ps.map fun p => Value.ref p.1).toArray).toList = (kA.zip ps).map fun z => ((z.1, Value.ref z.2.1) : Keyed) := by
    rw [Array.toList_zip]
    show kA.zip (ps.map fun p => Value.ref p.1) = _
    rw [List.zip_map_right]
    rfl
  have fin : ∀ (st : SortSt) (Z : List (Value × (Addr × List Str))), (arrOf st).toList = Z.map (fun z => ((z.1, Value.ref z.2.1) : Keyed)) → Z.Perm (kA.zip ps) → (Z.map Prod.snd).Pairwise (fun p q => kLt q.2 p.2 = false) → failedOf st = none → wpAny (model X.prog X.w) A (ksk_tail a false e1 (.ref kS) st) P E' s := by
    intro st Z hZ hp ho hf
    have lz : Z.length = ps.length := by rw [hp.length_eq, List.length_zip]; omega
    have es : ((arrOf st).map (·.2)).toList = (Z.map Prod.snd).map fun p => Value.ref p.1 := by
      rw [Array.toList_map, hZ, List.map_map, List.map_map]
      rfl
    have sz : (arrOf st).size = ps.length := by rw [← Array.length_toList, hZ, List.length_map, lz]
    obtain ⟨n1, I1, _⟩ := Inv.repinL (fun _ => (#[] : Array Value)) I.unpin (wk.cons (Ne.symm hk)) Hk ok
    have oa1 : (s.heap.update kS (Obj.mapSeq fun _ => (#[] : Array Value))).get? a = some (seqObj "list" #[] e1) := (I1.pin (a, _) (List.mem_append_right _ (.head _))).1
    obtain ⟨n2, I2, oa2⟩ := Inv.repinL (s := { s with heap := s.heap.update kS (Obj.mapSeq fun _ => (#[] : Array Value)) }) (fun _ => (arrOf st).map (·.2)) I1.unpin wa Ha oa1
    unfold ksk_tail
    try dsimp only
    refine wpAny_bind (listUpdate_at ok rfl ?_ (by rw [List.size_toArray, sizeLine_eq]; omega) (Nat.zero_le _))
    refine wpAny_bind (wpAny_letGo ?_)
    refine wpAny_bind (seqEpoch_at oa1 rfl ?_)
    refine wpAny_bind (listUpdate_at oa1 rfl ?_ (Nat.zero_le _) (by simp only [Bool.false_eq_true, if_false, Array.size_map]; rw [sz, sizeLine_eq]; omega))
    rw [hf]
    simp only [bne_self_eq_false, Bool.false_eq_true, if_false]
    refine wpAny_pure (h _ (Z.map Prod.snd) ?_ ho ?_)
    · have := hp.map Prod.snd
      rw [List.map_snd_zip (by omega)] at this
      exact this
    · refine I2.adopt (its := (Z.map Prod.snd).map fun p => Value.ref p.1) (n := n2) wa Ha ?_ (by rw [List.length_map, List.length_map, lz, sizeLine_eq]; omega) ?_
      · have := vals_refs ((Z.map Prod.snd).map Prod.fst)
        rw [List.map_map, List.map_map (g := Value.ref)] at this
        exact this
      · rw [← es, Array.toArray_toList]; exact oa2
  unfold ksk_end
  try dsimp only
  simp only [Bool.false_eq_true, if_false]
  by_cases h2 : ((ps.map fun p => Value.ref p.1).toArray).size < 2
  · rw [if_pos h2, if_pos h2]
    refine wpAny_bind (wpAny_pure ?_)
    rw [StateT.run_pure]
    refine wpAny_bind (wpAny_pure ?_)
    try dsimp only
    refine fin (SortSt.mk' general' (kA.toArray.zip (ps.map fun p => Value.ref p.1).toArray) #[] 7 none) (kA.zip ps) ez (List.Perm.refl _) ?_ rfl
    rw [List.map_snd_zip (by omega)]
    rw [List.size_toArray, List.length_map] at h2
    match ps, h2 with
    | [], _ => exact List.Pairwise.nil
    | [p], _ => exact List.pairwise_singleton ..
  · rw [if_neg h2, if_neg h2]
    rw [List.size_toArray, List.length_map] at h2
    obtain ⟨fs, kt, fl, fa⟩ := keys_firsts keys
    refine wpAny_bind (kat_kind (T := .type "int") kt (by omega) (fun v hv => ?_) (by decide) ?_)
    · obtain ⟨x, t, rfl⟩ := fa v hv
      exact .now
    show wpAny _ _ (sortRuns'.run (SortSt.mk' (tuples' true) _ #[] 7 none) >>= _) _ _ _
    have ex : ∀ x : Keyed, ∃ r : Int, ∀ t, KeyAt s.heap x.1 t → r = (rankT (ps.map Prod.snd) t : Int) := fun x => by
      by_cases c : ∃ t, KeyAt s.heap x.1 t
      · obtain ⟨t, ht⟩ := c
        exact ⟨(rankT (ps.map Prod.snd) t : Int), fun u hu => by rw [ht.uniq hu]⟩
      · exact ⟨0, fun t ht => absurd ⟨t, ht⟩ c⟩
    obtain ⟨rk, hrk⟩ : ∃ rk : Keyed → Int, ∀ x t, KeyAt s.heap x.1 t → rk x = (rankT (ps.map Prod.snd) t : Int) := ⟨fun x => Classical.choose (ex x), fun x => Classical.choose_spec (ex x)⟩
    have at_ : ∀ z ∈ kA.zip ps, KeyAt s.heap z.1 z.2.2 ∧ z.2.2 ∈ ps.map Prod.snd := fun z hz => ⟨paired_zip keys z hz, List.mem_map.mpr ⟨z.2, (List.of_mem_zip hz).2, rfl⟩⟩
    have ak : Asks X.prog X.w A E' s rk (tuples' true) (fun x => ∃ t ∈ ps.map Prod.snd, KeyAt s.heap x.1 t) := asks_of fun x y ⟨t, ht, kx⟩ ⟨u, hu', ky⟩ Q hq => by
      rw [hrk x t kx, hrk y u ky, rankT_eq ht hu'] at hq
      exact keyLt_T hu kx ky hq
    refine wpAny_bind (run_sort ak (fun x hx => ?_) fun st' hf dn => ?_)
    · rw [ez] at hx
      obtain ⟨z, hz, rfl⟩ := List.mem_map.mp hx
      exact ⟨_, (at_ z hz).2, (at_ z hz).1⟩
    · obtain ⟨Z, pZ, eZ⟩ := perm_lift dn.1 (kA.zip ps) ez
      refine fin st' Z eZ.symm pZ ?_ hf
      have so := dn.2
      rw [← eZ] at so
      have so := List.pairwise_map.mp so
      refine List.pairwise_map.mpr (so.imp_of_mem fun {x y} hx hy le => ?_)
      have ax := at_ x (pZ.mem_iff.mp hx)
      have ay := at_ y (pZ.mem_iff.mp hy)
      rw [hrk _ _ ax.1, hrk _ _ ay.1] at le
      cases c : kLt y.2.2 x.2.2 with
      | false => rfl
      | true =>
        have := rankT_lt ay.2 c
        omega
theorem sortKeyT_core {pins : List (Addr × Obj)} {σ : St} {H1 : Hp} {s1 : Shared} {l f : Addr} {ps : List (Addr × List Str)} {Q : VK} (I1 : Inv X pins σ H1 s1) (hq : SqL X.K H1 l (ps.map fun p => V.ref p.1)) (hrow : ∀ p ∈ ps, SqL X.K H1 p.1 (p.2.map V.str)) (hn : ps.length ≤ 5000) (hu : X.A.in1.in1.units < cLine)
    (hcall : ∀ p ∈ ps, ∀ (pins' : List (Addr × Obj)) (s' : Shared) (H' : Hp), (∀ q ∈ pins, q ∈ pins') → ExtH H1 H' → Inv X pins' σ H' s' → wpAny (model X.prog X.w) X.A.in1.in1 (call (.ref f) [.ref p.1]) (EP X pins' σ (fun v H2 => ∃ k, v = .ref k ∧ H' k = none ∧ H2 = upd H' k (.tup [.int p.2.length, .ref p.1]))) (fun _ _ => False) s')
    (q : ∀ (r : Addr) (ps' : List (Addr × List Str)) (H2 : Hp), H1 r = none → ExtH H1 H2 → H2 r = some (.lst (ps'.map fun p => V.ref p.1)) → ps'.Perm ps → ps'.Pairwise (fun p q => kLt q.2 p.2 = false) → Q (.ref r) H2) :
    wpAny (model X.prog X.w) X.A (call (.builtin "sorted") [.ref l] [(Str.ofString "key", .ref f)]) (EP X pins σ Q) X.xe s1 := by
  obtain ⟨its, rv, pl, hz⟩ := I1.list hq
  have ei : its = ps.map fun p => Value.ref p.1 := by
    have rv' : Vals ((ps.map Prod.fst).map V.ref) its := by rw [List.map_map]; exact rv
    have := refs_of rv'
    rw [List.map_map] at this
    exact this
  have hl : its.length = ps.length := by rw [ei, List.length_map]
  refine call_function_entry_kw kind_sorted plain_sorted entry_sorted (ksk_s1 _ _) ?_
  unfold Builtin.«sorted»
  refine wpAny_bind (m := checkCount "sorted" 1 1 _) (wpAny_pure ?_)
  refine wpAny_bind (collect_list pl.isList ?_ (by rw [sizeLine_eq]; omega))
  refine wpAny_bind (wpAny_newList ?_ (by rw [sizeLine_eq]; omega))
  have hsz : ((s1.heap.push (seqObj "list" #[] 0)).update s1.heap.objs.size (Obj.mapSeq (· ++ its.toArray))).objs.size = s1.heap.objs.size + 1 := by
    rw [Heap.size_update, size_push']
  have keep : ∀ b o, s1.heap.get? b = some o → ((s1.heap.push (seqObj "list" #[] 0)).update s1.heap.objs.size (Obj.mapSeq (· ++ its.toArray))).get? b = some o := fun b o q => by
    have hlt : b < s1.heap.objs.size := Heap.lt_size q
    rw [Heap.get?_update_ne _ _ _ _ (Nat.ne_of_lt hlt), Heap.get?_push_ne _ _ _ (Nat.ne_of_lt hlt)]
    exact q
  have hoL : (((s1.heap.push (seqObj "list" #[] 0)).update s1.heap.objs.size (Obj.mapSeq (· ++ its.toArray))).push (seqObj "list" its.toArray 0)).get? (s1.heap.objs.size + 1) = some (seqObj "list" its.toArray 0) := by
    rw [← hsz]; exact Heap.get?_push_size _ rfl
  have I2 : Inv X pins σ H1 { s1 with heap := ((s1.heap.push (seqObj "list" #[] 0)).update s1.heap.objs.size (Obj.mapSeq (· ++ its.toArray))).push (seqObj "list" its.toArray 0) } :=
    I1.kept (t' := s1.toks) fun b o q => Heap.get?_push_of_some _ (keep b o q)
  show wpAny _ _ _ _ _ { s1 with heap := ((s1.heap.push (seqObj "list" #[] 0)).update s1.heap.objs.size (Obj.mapSeq (· ++ its.toArray))).push (seqObj "list" its.toArray 0) }
  rw [hsz]
  have nA : H1 (s1.heap.objs.size + 1) = none := I1.hok.fresh (Nat.le_succ _)
  have wA : Aw X pins (s1.heap.objs.size + 1) := I1.aw (Nat.le_succ _)
  generalize s1.heap.objs.size + 1 = a at hoL nA wA
  generalize hS : ({ s1 with heap := ((s1.heap.push (seqObj "list" #[] 0)).update s1.heap.objs.size (Obj.mapSeq (· ++ its.toArray))).push (seqObj "list" its.toArray 0) } : Shared) = s2 at I2
  have ho2 : s2.heap.get? a = some (seqObj "list" its.toArray 0) := by rw [← hS]; exact hoL
  clear hoL hS
  refine wpAny_bind (wpAny_holding (wpAny_call_entry_kw slot_list_sort ⟨_, ho2, rfl⟩ entry_list_sort ?body (ksk_l1 _ _)))
  show wpAny (model X.prog X.w) X.A.in1.in1 (Builtin.«list.sort» ⟨[.ref a], [(Str.ofString "key", .ref f)]⟩) _ _ _
  rw [ksk_t1]
  unfold ksk_tree
  refine wpAny_bind (listItems_at ho2 rfl ?_)
  refine wpAny_bind (listUpdate_at ho2 rfl ?_ (by rw [List.size_toArray, sizeLine_eq]; omega) (Nat.zero_le _))
  obtain ⟨e1, I3, ho3⟩ := I2.repinL (fun _ => #[]) wA nA ho2
  refine wpAny_bind (seqEpoch_at ho3 rfl ?_)
  refine wpAny_bind (wpAny_newTuple ?_ (by show its.length ≤ _; rw [sizeLine_eq]; omega))
  refine wpAny_bind (wpAny_newList ?_ (Nat.zero_le _))
  refine wpAny_holding ?_
  have I4 : Inv X pins σ H1 { s2 with heap := ((s2.heap.update a (Obj.mapSeq fun _ => (#[] : Array Value))).push (seqObj "tuple" its.toArray 0)) } := I3.kept (t' := s2.toks) fun b o q => Heap.get?_push_of_some _ q
  have nK := I4.fresh
  have wK := I4.aw (Nat.le_refl _)
  have ho4 : ((s2.heap.update a (Obj.mapSeq fun _ => (#[] : Array Value))).push (seqObj "tuple" its.toArray 0)).get? a = some (seqObj "list" #[] e1) := Heap.get?_push_of_some _ ho3
  have nka : ((s2.heap.update a (Obj.mapSeq fun _ => (#[] : Array Value))).push (seqObj "tuple" its.toArray 0)).objs.size ≠ a := Nat.ne_of_gt (Heap.lt_size ho4)
  have I5 : Inv X pins σ H1 { s2 with heap := ((s2.heap.update a (Obj.mapSeq fun _ => (#[] : Array Value))).push (seqObj "tuple" its.toArray 0)).push (seqObj "list" #[] 0) } := I4.kept (t' := s2.toks) fun b o q => Heap.get?_push_of_some _ q
  have ho5 : (((s2.heap.update a (Obj.mapSeq fun _ => (#[] : Array Value))).push (seqObj "tuple" its.toArray 0)).push (seqObj "list" #[] 0)).get? a = some (seqObj "list" #[] e1) := Heap.get?_push_of_some _ ho4
  have hk5 : (((s2.heap.update a (Obj.mapSeq fun _ => (#[] : Array Value))).push (seqObj "tuple" its.toArray 0)).push (seqObj "list" #[] 0)).get? ((s2.heap.update a (Obj.mapSeq fun _ => (#[] : Array Value))).push (seqObj "tuple" its.toArray 0)).objs.size = some (seqObj "list" #[] 0) := Heap.get?_push_size _ rfl
  show wpAny _ _ (ksk_rest a (.ref f) false its.toArray e1 (.ref ((s2.heap.update a (Obj.mapSeq fun _ => (#[] : Array Value))).push (seqObj "tuple" its.toArray 0)).objs.size)) _ _ { s2 with heap := ((s2.heap.update a (Obj.mapSeq fun _ => (#[] : Array Value))).push (seqObj "tuple" its.toArray 0)).push (seqObj "list" #[] 0) }
  change H1 ((s2.heap.update a (Obj.mapSeq fun _ => (#[] : Array Value))).push (seqObj "tuple" its.toArray 0)).objs.size = none at nK
  change Aw X pins ((s2.heap.update a (Obj.mapSeq fun _ => (#[] : Array Value))).push (seqObj "tuple" its.toArray 0)).objs.size at wK
  have I6 := (I5.pinL wA nA ho5).pinL (wK.cons (Ne.symm nka)) nK hk5
  generalize ((s2.heap.update a (Obj.mapSeq fun _ => (#[] : Array Value))).push (seqObj "tuple" its.toArray 0)).objs.size = kS at nK wK nka I6 ⊢
  generalize ({ s2 with heap := ((s2.heap.update a (Obj.mapSeq fun _ => (#[] : Array Value))).push (seqObj "tuple" its.toArray 0)).push (seqObj "list" #[] 0) } : Shared) = s6 at I6 ⊢
  unfold ksk_rest
  refine wpAny_bind (wpAny_rule ?_)
  first
    | rw [List.forIn_toArray]
    | (rw [← Array.forIn_toList]; simp only [List.toList_toArray])
    | rw [← Array.forIn_toList]
  refine wpAny_bind (ksk_fold (fun i s' => ∃ (kA : List Value) (e : Nat) (H' : Hp), Inv X ((kS, seqObj "list" kA.toArray e) :: (a, seqObj "list" #[] e1) :: pins) σ H' s' ∧ ExtH H1 H' ∧ Paired (fun v p => ∃ k, v = Value.ref k ∧ H' k = some (.tup [.int (p.2.length : Int), .ref p.1])) kA (ps.take i)) its 0 s6 ⟨[], 0, H1, I6, fun _ _ z => z, by simpa using Paired.nil⟩ ?step ?done)
  case step =>
    rintro j x s' hx ⟨kA, e, H', I', ex, hk⟩
    simp only [Nat.zero_add] at hk ⊢
    have hj : j < its.length := (List.getElem?_eq_some_iff.mp hx).1
    have hjn : j < ps.length := by omega
    have hxe : x = .ref ps[j].1 := by
      rw [ei, List.getElem?_map, List.getElem?_eq_getElem hjn] at hx
      exact (Option.some.inj hx).symm
    subst hxe
    have hz : kA.length ≤ its.length := by
      have h1 := paired_len hk
      rw [List.length_take] at h1
      omega
    refine wpAny_bind (wpAny_attempt (wpAny_mono (hcall ps[j] (List.getElem_mem hjn) _ s' H' (fun p hp => List.mem_cons_of_mem _ (List.mem_cons_of_mem _ hp)) ex I') (fun v s'' he => ?_) fun _ _ (hF : False) => hF.elim))
    obtain ⟨w, H'', I8, rw', k, rfl, nk, e8⟩ := he
    cases rw'
    subst e8
    try dsimp only
    have ok2 : s''.heap.get? kS = some (seqObj "list" kA.toArray e) := (I8.pin (kS, _) (List.mem_append_right _ (.head _))).1
    have nK8 : upd H' k (.tup [.int ps[j].2.length, .ref ps[j].1]) kS = none := (I8.pin (kS, _) (List.mem_append_right _ (.head _))).2.1
    obtain ⟨n3, I3, ok3⟩ := I8.unpin.repinL (·.push (.ref k)) (wK.cons (Ne.symm nka)) nK8 ok2
    have ek : ps.take (j + 1) = ps.take j ++ [ps[j]] := by rw [List.take_add_one, List.getElem?_eq_getElem hjn]; rfl
    refine wpAny_bind (listUpdate_at ok2 rfl ?_ (by rw [List.size_toArray, sizeLine_eq]; omega) (Nat.le_trans (Nat.le_of_eq (Array.size_push ..)) (by rw [List.size_toArray, sizeLine_eq]; omega)))
    have ea : kA.toArray.push (Value.ref k) = (kA ++ [Value.ref k]).toArray := by simp
    rw [ea] at ok3
    refine wpAny_pure ⟨rfl, kA ++ [.ref k], n3, _, I3.pinL (wK.cons (Ne.symm nka)) nK8 ok3, fun b o z => ?_, ?_⟩
    · have := ex b o z
      rw [upd_ne (ne_of_none this nk)]; exact this
    · rw [ek]
      refine paired_snoc (paired_imp (fun v p ⟨k2, z1, z2⟩ => ⟨k2, z1, ?_⟩) hk) ⟨k, rfl, upd_same⟩
      rw [upd_ne (ne_of_none z2 nk)]; exact z2
  case done =>
    rintro s' ⟨kA, e, H', I', ex, hk⟩
    have e3 : ps.take (0 + its.length) = ps := List.take_of_length_le (by omega)
    rw [e3] at hk
    have ok2 : s'.heap.get? kS = some (seqObj "list" kA.toArray e) := (I'.pin (kS, _) (List.mem_append_right _ (.head _))).1
    have nK' : H' kS = none := (I'.pin (kS, _) (List.mem_append_right _ (.head _))).2.1
    have nA' : H' a = none := (I'.pin (a, _) (List.mem_append_right _ (.tail _ (.head _)))).2.1
    try dsimp only
    refine wpAny_bind (listItems_at ok2 rfl ?_)
    have keys : Paired (fun v p => KeyAt s'.heap v p.2) kA ps := paired_mem hk fun v p hp ⟨k, ev, hH⟩ => by
      obtain ⟨i1, r1, t1, _⟩ := I'.tuple (Or.inl (.inl hH))
      obtain ⟨i2, r2, ⟨o, n, g1, g2, _, g4⟩, _⟩ := I'.list (sq_ext ex (hrow p hp))
      cases r1 with
      | cons r1 rr =>
        cases rr with
        | cons r3 rr =>
          cases rr
          obtain ⟨tok, rfl⟩ := r1
          cases r3
          exact ⟨k, p.1, tok, i2.toArray, ev, t1, ⟨o, g1, g2, n, g4⟩, by simpa using strsAre_of r2⟩
    subst ei
    refine sk_endT I' nka nK' nA' wA wK hu keys hn fun s7 ps' hp ho I7 => ⟨_, rfl, ?_⟩
    refine wpAny_pure ⟨_, rfl, ⟨.ref a, _, I7, rfl, q a ps' _ nA (fun b o z => ?_) upd_same hp ho⟩⟩
    have := ex b o z
    rw [upd_ne (ne_of_none this nA')]; exact this
end
end L2
namespace L2
open PySem PySem.Spec PyProof.Rows PySem.W
theorem zip_dup : ∀ vs : List Value, vs.zip vs = vs.map fun v => ((v, v) : Keyed)
  | [] => rfl
  | v :: vs => by rw [List.zip_cons_cons, List.map_cons, zip_dup vs]
section
variable {P : Program} {w : World} {A : Around} {E : Value → Shared → Prop} {s : Shared}
theorem sort_intsN {a : Addr} {vs : List Value} {ns : List Int} {n : Nat} {R : PySem.Fin → Shared → Prop} (ho : s.heap.get? a = some (seqObj "list" vs.toArray n)) (hi : IntsAre vs ns) (hn : vs.length ≤ 5000)
    (h : ∀ (out : List Value), out.Perm vs → (out.map numOf).Pairwise (· ≤ ·) → R (.done (.ret .none)) { s with heap := sortedHeap s.heap a vs out.toArray }) : wpAny (model P w) A (Builtin.«list.sort» ⟨[.ref a], []⟩) R E s := by
  rw [list_sort_plain]
  have ha : a < s.heap.objs.size := Heap.lt_size ho
  refine wpAny_bind (listItems_at ho rfl (wpAny_bind (listUpdate_at ho rfl ?_ (by rw [List.size_toArray, sizeLine_eq]; omega) (Nat.zero_le _))))
  obtain ⟨e1, ho1⟩ : ∃ e1, (s.heap.update a (Obj.mapSeq fun _ => #[])).get? a = some (seqObj "list" #[] e1) := ⟨_, get?_update_seq ho (fun _ => #[])⟩
  refine wpAny_bind (seqEpoch_at ho1 rfl (wpAny_bind (wpAny_newTuple ?_ (by show vs.length ≤ _; rw [sizeLine_eq]; omega))))
  refine wpAny_bind (wpAny_newList ?_ (Nat.zero_le _))
  refine wpAny_holding ?_
  have ho6 : (((s.heap.update a (Obj.mapSeq fun _ => #[])).push (seqObj "tuple" vs.toArray 0)).push (seqObj "list" #[] 0)).get? a = some (seqObj "list" #[] e1) := Heap.get?_push_of_some _ (Heap.get?_push_of_some _ ho1)
  have keep : ∀ b o, b ≠ a → s.heap.get? b = some o → (((s.heap.update a (Obj.mapSeq fun _ => #[])).push (seqObj "tuple" vs.toArray 0)).push (seqObj "list" #[] 0)).get? b = some o := fun b o hb e => by
    refine Heap.get?_push_of_some _ (Heap.get?_push_of_some _ ?_)
    rw [Heap.get?_update_ne _ _ _ _ hb]; exact e
  show wpAny (model P w) A _ R E { s with heap := ((s.heap.update a (Obj.mapSeq fun _ => #[])).push (seqObj "tuple" vs.toArray 0)).push (seqObj "list" #[] 0) }
  dsimp only
  have fin : ∀ (st' : SortSt) (out : List Value), (arrOf st').map (·.2) = out.toArray → failedOf st' = none → out.Perm vs → (out.map numOf).Pairwise (· ≤ ·) → wpAny (model P w) A (do
      let touched := (← seqEpoch a) != e1
      Builtin.List.listUpdate (.ref a) fun _ => (arrOf st').map (·.2)
      if let some e := failedOf st' then rule "list.sort.comparison-raised"; throw e
      if touched then rule "list.sort.modified"; raiseError "ValueError" "list modified during sort"
      ret .none) R E { s with heap := ((s.heap.update a (Obj.mapSeq fun _ => #[])).push (seqObj "tuple" vs.toArray 0)).push (seqObj "list" #[] 0) } := by
    intro st' out e hf hp hs
    refine wpAny_bind (seqEpoch_at ho6 rfl ?_)
    refine wpAny_bind (listUpdate_at ho6 rfl ?_ (Nat.zero_le _) (by rw [e, List.size_toArray, hp.length_eq, sizeLine_eq]; omega))
    rw [hf]
    simp only [bne_self_eq_false, Bool.false_eq_true, if_false]
    rw [e]
    exact wpAny_pure (h out hp hs)
  have ez : (vs.toArray.zip vs.toArray).toList = vs.map fun v => ((v, v) : Keyed) := by
    rw [Array.toList_zip]
    exact zip_dup vs
  by_cases h2 : vs.toArray.size < 2
  · rw [if_pos h2, if_pos h2]
    refine wpAny_bind (wpAny_pure ?_)
    rw [StateT.run_pure]
    refine wpAny_bind (wpAny_pure (fin _ vs ?_ rfl (List.Perm.refl _) ?_))
    · show (vs.toArray.zip vs.toArray).map (·.2) = vs.toArray
      apply Array.toList_inj.mp
      rw [Array.toList_map, Array.toList_zip]
      exact List.map_snd_zip (Nat.le_refl _)
    · rw [List.size_toArray] at h2
      match vs, h2 with
      | [], _ => exact List.Pairwise.nil
      | [p], _ => exact List.pairwise_singleton ..
  · rw [if_neg h2, if_neg h2]
    have hl2 : 2 ≤ vs.length := by rw [List.size_toArray] at h2; omega
    rw [ksk_kind (keys := vs.toArray) (kz := ns) (by simpa using hi) (by rw [List.size_toArray]; omega)]
    refine wpAny_bind (wpAny_pure ?_)
    have ak : Asks P w A E { s with heap := ((s.heap.update a (Obj.mapSeq fun _ => #[])).push (seqObj "tuple" vs.toArray 0)).push (seqObj "list" #[] 0) } (fun x => numOf x.1) oneType' (fun x => ∃ n t, x.1 = Value.int n t) := asks_of fun x y ⟨n, t, ex⟩ ⟨m, u, ey⟩ Q hq => by
      rw [ex, ey] at hq
      rw [ex, ey, keyLt'_oneType]
      exact oneLt_int hq
    refine wpAny_bind (run_sort ak (fun x hx => ?_) fun st' hf dn => ?_)
    · rw [ez] at hx
      obtain ⟨v, hv, rfl⟩ := List.mem_map.mp hx
      exact hi.all v hv
    · obtain ⟨L, pL, eL⟩ := perm_lift dn.1 vs ez
      refine fin st' L ?_ hf pL ?_
      · apply Array.toList_inj.mp
        rw [Array.toList_map, ← eL, List.map_map]
        show L.map _ = L
        exact List.map_id' L
      · have so := dn.2
        rw [← eL] at so
        have so2 := List.pairwise_map.mp so
        exact List.pairwise_map.mpr so2
end
section
variable {X : Cx}
theorem call_sortedN : CallR X (.builtin "sorted") (fun xs H Q => ∃ (p : Addr) (ns : List Int), xs = [.ref p] ∧ SqL X.K H p (ns.map V.int) ∧ ns.length ≤ 5000 ∧ ∀ (r : Addr) (ns' : List Int), H r = none → ns'.Perm ns → ns'.Pairwise (· ≤ ·) → Q (.ref r) (upd H r (.lst (ns'.map V.int)))) := by
  intro pins s σ H xs us Q I r h
  obtain ⟨p, ns, rfl, hq, hn, q⟩ := h
  obtain ⟨u, rfl, rx⟩ := vals1 r
  cases rx
  obtain ⟨its, rv, pl, hz⟩ := I.list hq
  have hi := intsAre_ofV rv
  have hl := hi.length
  refine Calls.call_function_entry kind_sorted plain_sorted entry_sorted (args_sorted1 _) ?_
  unfold Builtin.«sorted»
  refine wpAny_bind (m := checkCount "sorted" 1 1 _) (wpAny_pure (wpAny_bind (collect_list pl.isList ?_ (by rw [sizeLine_eq]; omega))))
  refine wpAny_bind (wpAny_newList ?_ (by rw [sizeLine_eq]; omega))
  have hsz : ((s.heap.push (seqObj "list" #[] 0)).update s.heap.objs.size (Obj.mapSeq (· ++ its.toArray))).objs.size = s.heap.objs.size + 1 := by rw [Heap.size_update, size_push']
  have hoL : (((s.heap.push (seqObj "list" #[] 0)).update s.heap.objs.size (Obj.mapSeq (· ++ its.toArray))).push (seqObj "list" its.toArray 0)).get? (s.heap.objs.size + 1) = some (seqObj "list" its.toArray 0) := by
    rw [← hsz]; exact Heap.get?_push_size _ rfl
  have keep : ∀ b o, s.heap.get? b = some o → (((s.heap.push (seqObj "list" #[] 0)).update s.heap.objs.size (Obj.mapSeq (· ++ its.toArray))).push (seqObj "list" its.toArray 0)).get? b = some o := fun b o e => by
    have hlt : b < s.heap.objs.size := Heap.lt_size e
    rw [Heap.get?_push_ne _ _ _ (by rw [hsz]; exact Nat.ne_of_lt (Nat.lt_succ_of_lt hlt)), Heap.get?_update_ne _ _ _ _ (Nat.ne_of_lt hlt), Heap.get?_push_ne _ _ _ (Nat.ne_of_lt hlt)]
    exact e
  show wpAny _ _ _ _ _ { s with heap := ((s.heap.push (seqObj "list" #[] 0)).update s.heap.objs.size (Obj.mapSeq (· ++ its.toArray))).push (seqObj "list" its.toArray 0) }
  rw [hsz]
  refine wpAny_bind (wpAny_holding (wpAny_call_entry slot_list_sort ⟨_, hoL, rfl⟩ entry_list_sort (sort_intsN hoL hi (by omega) fun out hp hs => ⟨_, rfl, ?_⟩) (args_list_sort _)))
  have nz : H (s.heap.objs.size + 1) = none := I.hok.fresh (Nat.le_succ _)
  obtain ⟨e, he⟩ := sortedAll_at s.heap its out.toArray
  have ho : IntsAre out (out.map numOf) := intsAre_map out fun v hv => hi.all v (hp.mem_iff.mp hv)
  have hpn : (out.map numOf).Perm ns := by
    have := hp.map numOf
    rw [hi.nums] at this
    exact this
  refine wpAny_pure ⟨_, rfl, .ref (s.heap.objs.size + 1), _, I.laid (t' := s.toks) (a := s.heap.objs.size + 1) (o := .lst ((out.map numOf).map V.int)) (h' := sortedAll s.heap its out.toArray) (fun b o eb => sortedAll_old eb) (Nat.le_succ _) ⟨?_, out, e, vals_ints ho, he⟩, rfl, q _ (out.map numOf) nz hpn hs⟩
  rw [List.length_map, List.length_map, hp.length_eq, sizeLine_eq]
  omega
end
def tSortLamT (K : PySem.W.Frag) (P : Addr) (lpos : Pos) (q : Str) (t : TA) : TE := fun σ H Q => t σ H fun vs H1 => ∃ (p : Addr) (ps : List (Addr × List Str)), vs = [.ref p] ∧ SqL K H1 p (ps.map fun p => V.ref p.1) ∧ (∀ x ∈ ps, SqL K H1 x.1 (x.2.map V.str)) ∧ ps.length ≤ 5000 ∧ TabW H1 P lpos q ∧
  ∀ (r : Addr) (ps' : List (Addr × List Str)) (H2 : Hp), H1 r = none → ExtB P H1 H2 → H2 r = some (.lst (ps'.map fun p => V.ref p.1)) → ps'.Perm ps → ps'.Pairwise (fun p q => kLt q.2 p.2 = false) → TabW H2 P lpos q → Q (.ref r) H2
section
variable {X : Cx} {k : Nat}
theorem pe_sortLamT {e body : Expr} {params : Arguments} {scope : Scope} {t : TA} {te : TE} {p pos kp lpos : Pos} {x : Str} {c P : Addr} (L : LamAt X c P) (hr : Room (k + 2) X.A) (hg : Gl X "sorted") (hm : X.mg "sorted" = none) (ha : PA X [e] t)
    (S : FnScope [x] [x] scope) (hcl : closureFor scope X.env = pure []) (hdef : defaultsOf params X.env = ([], []))
    (hb : ∀ (nm ql : Str) (pm cd ct u : Value), bindArgs { name := nm, qualname := ql, params, body := .expr body, scope, globals := mainGlobals, closure := [], defaults := .none, kwdefaults := .none, doc := .none, pyModule := pm, annotations := none, code := cd, closureTuple := ct, builtins := builtinsNs } ⟨[u], []⟩ = pure [(x, u)])
    (hbody : ∀ (A : Around) (s : Shared) (H : Hp) (f : Addr) (cd : Value) (qual : Str), PE (cxOf CX0 X.prog X.w X.K X.mg X.base [x] qual scope f cd A X.stack s H E0) body te)
    (hte : ∀ (a : Addr) (t : List Str) (H : Hp) (Q : VK), SqL X.K H a (t.map V.str) → (∀ k, H k = none → Q (.ref k) (upd H k (.tup [.int t.length, .ref a]))) → te [some (.ref a)] H Q)
    (he : backTo pos (starEach [e] X.env) = (false, eval e X.env) :: backTo pos (starEach [] X.env) := by rfl)
    (hplain : (backTo pos (starEach [e] X.env)).any (·.1) = false := by rfl) : PE X (.Call (.Name "sorted" p) [e] [⟨some "key", .Lambda params body scope lpos, kp⟩] pos) (tSortLamT X.K P lpos (X.env.qual ++ "<lambda>") t) := by
  intro pins s σ H Q I h
  refine wpAny_Call_Name_kw (ld_blt I hg hm (by decide +kernel : bootBuiltins "sorted" = some (.builtin "sorted")) ?_ (by decide) (by decide))
  refine PyProof.Rows.callWith_kw (thn (ha pos pins s σ H _ I h) fun us s1 ⟨vs, H1, I1, r1, q1⟩ => ?_) he hplain
  obtain ⟨l, ps, rfl, hq, hrow, hn, tw, q⟩ := q1
  obtain ⟨u, rfl, rx⟩ := vals1 r1
  cases rx
  have hgs : s1.heap.Ns mainGlobals X.mg := I1.ok.mod.glob.keeps I1.bk
  obtain ⟨bm, ob, b1, b2, b3, b4, b5, b6⟩ := L.bl
  have rest : ∀ (c' : Addr) (ctv : Value) (h' : Heap) (tk : Nat) (H2 : Hp), Inv X pins σ H2 { s1 with heap := h'.push (PySem.W.kla_obj "<lambda>" (X.env.qual ++ "<lambda>") params body scope [] ((X.mg "__name__").getD .none) c' ctv), toks := tk } → H2 c' = some (codeO c' (X.env.qual ++ "<lambda>")) → H2 h'.objs.size = none → Aw X pins h'.objs.size → (∃ ps, H1 P = some (.tbl ps)) → ExtB P H1 H2 → TabW H2 P lpos (X.env.qual ++ "<lambda>") → (∀ r, H2 r = none → H1 r = none) →
      wpAny (model X.prog X.w) X.A (call (.builtin "sorted") [.ref l] [(Str.ofString "key", .ref h'.objs.size)]) (EP X pins σ Q) X.xe { s1 with heap := h'.push (PySem.W.kla_obj "<lambda>" (X.env.qual ++ "<lambda>") params body scope [] ((X.mg "__name__").getD .none) c' ctv), toks := tk } := by
    intro c' ctv h' tk H2 I2 hc' nF wF ⟨ps, hP⟩ eB tw2 back
    have I3 : Inv X ((h'.objs.size, PySem.W.kla_obj "<lambda>" (X.env.qual ++ "<lambda>") params body scope [] ((X.mg "__name__").getD .none) c' ctv) :: pins) σ H2
        { s1 with heap := h'.push (PySem.W.kla_obj "<lambda>" (X.env.qual ++ "<lambda>") params body scope [] ((X.mg "__name__").getD .none) c' ctv), toks := tk } := I2.pins_of fun p hp => by
      rcases List.mem_cons.mp hp with rfl | hp
      · exact ⟨Heap.get?_push_size _ rfl, nF, wF.loc, wF.fs, fun v z => by cases z⟩
      · exact I2.pin p (List.mem_append_right _ hp)
    refine wpAny_mono (sortKeyT_core (Q := Q) I3 (sq_B hP eB hq) (fun p hp => sq_B hP eB (hrow p hp)) hn (by have := (Room.in1 (Room.in1 hr)).un; omega) (fun p hp pins' s' H' sub ex I' => ?_) (fun r ps' H3 nr ex e3 hp ho => ?_)) (fun v s' ⟨y, H', J, ry, qq⟩ => ⟨y, H', J.unpin, ry, qq⟩) fun _ _ z => z
    · have ho := (I'.pin _ (List.mem_append_right _ (sub _ (.head _)))).1
      have hcr : s'.heap.CodeRec (.ref c') (X.env.qual ++ "<lambda>") := (I'.hok c' _ (ex _ _ hc')).1
      refine wpAny_call (codeAny_mono (run_lam (v := .ref p.1) (t := te) (Q := fun v H2 => ∃ k, v = .ref k ∧ H' k = none ∧ H2 = upd H' k (.tup [.int p.2.length, .ref p.1])) (Room.in1 (Room.in1 hr)) I'.env0.in1.in1 ho hcr S (hb _ _ _ _ _ _) rfl (hbody _ _ _ _ _ _) (hte p.1 p.2 H' _ (sq_ext ex (sq_B hP eB (hrow p hp))) fun k nk => ⟨k, rfl, nk, rfl⟩)) fun r s'' hq => ?_)
      cases r with
      | error e => exact False.elim hq
      | ok fl =>
        cases fl with
        | ret u => exact I'.after hq
        | next => exact False.elim hq
        | brk => exact False.elim hq
        | cont => exact False.elim hq
    · exact q r ps' H3 (back r nr) (fun b o hb e => ex b o (eB b o hb e)) e3 hp ho (tw2.ext ex)
  rcases tw with hP | ⟨c', hP, hc'⟩
  · have hPh : s1.heap.get? P = some (PySem.W.tabObj #[]) := I1.hok P _ hP
    have hgP : mainGlobals ≠ P := fun z => by
      obtain ⟨o, es, ep, e1, hd, _⟩ := hgs
      rw [z, hPh] at e1; cases e1; cases hd
    refine PyProof.Rows.kws_cons (PySem.W.kla_eval hdef (PySem.W.kla_makeFunction (mg := X.mg) hcl I1.ok.glob hgs L.code (L.hd.keeps I1.bk) hPh trivial rfl hgP ⟨bm, ob, b1, b2, b3, b4, I1.bk _ _ b5, b6⟩ fun c' ctv h' tk hx hge hlt hrec htb => PyProof.Rows.kws_nil ?_))
    have hsz : s1.heap.objs.size ≤ h'.objs.size := Nat.le_of_lt (Nat.lt_of_le_of_lt hge hlt)
    have I2 := I1.grown (more := #[rawInt lpos.line, rawInt lpos.col, .ref c']) (tk := tk) (h' := h'.push (PySem.W.kla_obj "<lambda>" (X.env.qual ++ "<lambda>") params body scope [] ((X.mg "__name__").getD .none) c' ctv)) hP (fun b o hb e => Heap.get?_push_of_some _ (hx b o hb e)) (Heap.get?_push_of_some _ htb)
    have hPlt : P < s1.heap.objs.size := Heap.lt_size hPh
    have nC1 : H1 c' = none := I1.hok.fresh hge
    have nC : upd H1 P (.tbl (#[] ++ #[rawInt lpos.line, rawInt lpos.col, .ref c'])) c' = none := by
      rw [upd_ne (Nat.ne_of_gt (Nat.lt_of_lt_of_le hPlt hge))]; exact nC1
    have wC : Aw X pins c' := I1.aw hge
    have I3 := I2.adoptX wC nC (codeO_ok (hrec.keeps fun b o e => Heap.get?_push_of_some _ e))
    have nF1 : H1 h'.objs.size = none := I1.hok.fresh hsz
    refine rest c' ctv h' tk _ I3 upd_same ?_ (I1.aw hsz) ⟨_, hP⟩ (fun b o hb e => ?_) (.inr ⟨c', ?_, upd_same⟩) fun r hr0 => ?_
    · rw [upd_ne (Nat.ne_of_gt hlt), upd_ne (Nat.ne_of_gt (Nat.lt_of_lt_of_le hPlt hsz))]; exact nF1
    · rw [upd_ne (ne_of_none e nC1), upd_ne hb]; exact e
    · rw [upd_ne (Nat.ne_of_lt (Nat.lt_of_lt_of_le hPlt hge)), upd_same]; simp
    · by_cases h1 : r = c'
      · rw [h1]; exact nC1
      · rw [upd_ne h1] at hr0
        by_cases h2 : r = P
        · rw [h2, upd_same] at hr0; cases hr0
        · rw [upd_ne h2] at hr0; exact hr0
  · have hPh : s1.heap.get? P = some (PySem.W.tabObj #[rawInt lpos.line, rawInt lpos.col, .ref c']) := I1.hok P _ hP
    refine PyProof.Rows.kws_cons (PySem.W.kla_eval hdef (PySem.W.kla_makeFunctionHit (mg := X.mg) hcl I1.ok.glob hgs L.code (L.hd.keeps I1.bk) hPh ?tri (among3 lpos _) ⟨bm, ob, b1, b2, b3, b4, I1.bk _ _ b5, b6⟩ fun ctv h' tk hk hsz => PyProof.Rows.kws_nil ?_))
    case tri => trivial
    have I2 : Inv X pins σ H1 { s1 with heap := h'.push (PySem.W.kla_obj "<lambda>" (X.env.qual ++ "<lambda>") params body scope [] ((X.mg "__name__").getD .none) c' ctv), toks := tk } := I1.kept (t' := tk) fun b o e => Heap.get?_push_of_some _ (hk b o e)
    exact rest c' ctv h' tk H1 I2 hc' (I1.hok.fresh hsz) (I1.aw hsz) ⟨_, hP⟩ (fun b o _ e => e) (.inr ⟨c', hP, hc'⟩) fun r z => z
end
end L2
namespace L2
open PySem PySem.Spec PyProof.Rows
theorem pe_lc {X : Cx} {target iter elt : Expr} {ifs : List Expr} {scope sc : Scope} {pos : Pos} {N N' : List Str} {sub : List (Option Nat)} {wi : TI} {g : TG} {tt : TT} {te : TE} (hN : X.N = N) (hsc : X.env.scope = sc)
    (O : CmpOk N sc N' scope sub) (hc : X.calm = true) (hi : PI X target iter wi)
    (B : ∀ C s H fp, PG (cmpOf X scope N' C s H fp) target g ∧ PTs (cmpOf X scope N' C s H fp) ifs tt ∧ PE (cmpOf X scope N' C s H fp) elt te)
    (hs : ∀ x, foldedSetIterable iter X.env x = pure x := by intro _; rfl) : PE X (.ListComp elt [⟨target, iter, ifs, 0⟩] scope pos) (tComp sub wi g tt te) :=
  pe_comp hc (by rw [hN, hsc]; exact O) hi B hs
end L2
namespace My
open PySem L2
def top (i : Nat) : Stmt := PySem.Challenge.pw_roundsalone_k22_cuts.main.body.getD i (.Pass ⟨0, 0, 0, 0⟩)
abbrev sMask : Stmt := top 1
abbrev sRowOf : Stmt := top 2
abbrev sLess : Stmt := top 3
abbrev sRedu : Stmt := top 4
abbrev sSums : Stmt := top 5
abbrev sLead : Stmt := top 6
abbrev sCrM : Stmt := top 7
abbrev sTabF : Stmt := top 8
abbrev sStepM : Stmt := top 10
abbrev sCross : Stmt := top 11
abbrev sTies : Stmt := top 13
abbrev sPoints : Stmt := top 14
abbrev sMet : Stmt := top 15
abbrev sTable : Stmt := top 16
abbrev sCut : Stmt := top 18
abbrev sInOrd : Stmt := top 20
abbrev sRMas : Stmt := top 21
abbrev sRounds : Stmt := top 22
abbrev sWalls : Stmt := top 23
abbrev sCell : Stmt := top 25
abbrev sBig : Stmt := top 26
abbrev sNames : Stmt := top 27
abbrev sEnds : Stmt := top 28
abbrev sNet : Stmt := top 29
abbrev sLPoints : Stmt := top 30
abbrev sLCut : Stmt := top 31
abbrev sLRow : Stmt := top 32
abbrev sLaw : Stmt := top 33
def Ext (H H' : Hp) : Prop := ∀ b o, H b = some o → H' b = some o
theorem Ext.refl (H : Hp) : Ext H H := fun _ _ h => h
theorem Ext.trans {H H1 H2 : Hp} (a : Ext H H1) (b : Ext H1 H2) : Ext H H2 := fun c o h => b c o (a c o h)
theorem Ext.new {H : Hp} {p : Addr} (h : H p = none) (o : HO) : Ext H (upd H p o) := fun b u q => by rw [upd_ne (ne_of_none q h)]; exact q
theorem Ext.none {H H' : Hp} (e : Ext H H') {p : Addr} (h : H' p = none) : H p = none := by
  cases q : H p with
  | none => rfl
  | some o => rw [e p o q] at h; cases h
theorem Ext.sqL {K : PySem.W.Frag} {H H' : Hp} {a : Addr} {xs : List V} (e : Ext H H') (h : SqL K H a xs) : SqL K H' a xs := by
  rcases h with (h | ⟨o, h⟩) | h
  · exact .inl (.inl (e _ _ h))
  · exact .inl (.inr ⟨o, e _ _ h⟩)
  · exact .inr h
def spCell (K : PySem.W.Frag) : Sp := fun vs H Q _ => ∃ (a : Addr) (ns : List Int) (k : Int), vs = [.ref a, .int k] ∧ SqL K H a (ns.map V.int) ∧ 0 ≤ k ∧ ∀ v, Q (.int v) H
section
variable {P : Program} {w : World} {K : PySem.W.Frag} {mg : Str → Option Value} {base : Heap} {f f1 : Addr} {fd fd1 : FuncData}
theorem scCell : FnScope ["_law_script", "_law_k"] ["_law_script", "_law_k"] (defScope sCell) := ⟨rfl, rfl, rfl, by decide +kernel, rfl, by decide +kernel, by decide +kernel⟩
theorem ok_cell (F : Fun K "_law_cell_at" "_law_cell_at" sCell f fd) (ml : mg "len" = none) : FnOk P w K mg base CX0 1 f fd ["_law_script", "_law_k"] (spCell K) := by
  refine F.ok scCell (fun vs H Q E h => ?_) (fun cdv A outer s H vs Q E hr h => ?_)
  · obtain ⟨a, ns, k, rfl, _⟩ := h
    rfl
  obtain ⟨a, ns, k, rfl, hS, h0, q⟩ := h
  refine ⟨_, pss_cons (ps_if (pt_cmpR op_lt (pv 1) (pe_callB call_len_seq rfl ml PySem.boot_len (pa_cons (pv 0) pa_nil)) (nomark _)) (pss_one (ps_ret (pe_ix ix_list (pv 0) (pv 1) (fun _ _ => rfl)))) pss_nil) (pss_one (ps_ret pe_int)), ?_⟩
  refine ⟨_, rfl, _, rfl, a, _, rfl, .inl hS, _, _, rfl, rfl, _, rfl, ?_⟩
  refine ite2 (fun c => ?_) (fun c => q 0)
  have c' : k < (((ns.map V.int).length : Nat) : Int) := of_decide_eq_true c
  rw [List.length_map] at c'
  have hk : k.toNat < ns.length := by omega
  have hv : atI (ns.map V.int) ((k.toNat : Nat) : Int) = some (.int ns[k.toNat]) := atI_nat (by rw [List.getElem?_map, List.getElem?_eq_getElem hk] <;> rfl)
  rw [Int.toNat_of_nonneg h0] at hv
  exact ⟨_, rfl, _, rfl, a, _, _, _, rfl, rfl, hS, hv, q _⟩
end
end My
namespace My
open PySem L2
theorem boot_isinst : bootBuiltins "isinstance" = some (.builtin "isinstance") := by decide +kernel
theorem kit_same (K : PySem.W.Frag) (t : Value) : PySem.W.kitOne K t t = some true := by unfold PySem.W.kitOne; rw [if_pos (beq_self_eq_true t)]
theorem boot_abs' : bootBuiltins "abs" = some (.builtin "abs") := by decide +kernel
theorem boot_range' : bootBuiltins "range" = some (.type "range") := by decide +kernel
theorem boot_any' : bootBuiltins "any" = some (.builtin "any") := by decide +kernel
end My
namespace My
open PySem L2
section
variable {σ0 : St} {g : TG} {tt : TT} {te : TE} {Q : List V → Hp → Prop} {H1 : Hp}
theorem turns_pure {K : PySem.W.Frag} {a : Addr} {xs : List V} (f : V → Option V) (hS : SqL K H1 a xs) (hz : xs.length ≤ sizeLine)
    (hs : ∀ x ∈ xs, ∀ C : Option V → Hp → Prop, C (f x) H1 → g x σ0 H1 fun σ2 H2 => Sle σ0 σ2 ∧ tt σ2 H2 fun b H3 => if b = true then te σ2 H3 (fun v H4 => C (some v) H4) else C none H3)
    (hd : Q (xs.filterMap f) H1) : cTurns (Itl K a) σ0 g tt te Q H1 := by
  refine turns_list (xs := xs) (fun i ys H => H = H1 ∧ ys = (xs.take i).filterMap f) ⟨rfl, by simp⟩ (fun i ys H _ h => by rw [h.1]; exact hS) ?_ ?_
  · rintro i x ys H hx ⟨rfl, rfl⟩
    have hi : i < xs.length := (List.getElem?_eq_some_iff.mp hx).1
    have hm : x ∈ xs := List.mem_of_getElem? hx
    have tk : (xs.take (i + 1)).filterMap f = (xs.take i).filterMap f ++ (f x).toList := by
      rw [List.take_add_one, hx, List.filterMap_append]
      cases e : f x <;> simp [e]
    have hl : ((xs.take i).filterMap f).length < sizeLine := by
      have h1 := List.length_filterMap_le f (xs.take i)
      rw [List.length_take] at h1
      omega
    refine hs x hm (fun o H4 => match o with | some v => ((xs.take i).filterMap f).length < sizeLine ∧ Nxt xs.length i _ ((xs.take i).filterMap f ++ [v]) H4 | none => Nxt xs.length i _ ((xs.take i).filterMap f) H4) ?_
    cases e : f x with
    | none => exact nxt hi ⟨rfl, by rw [tk, e]; simp⟩
    | some v => exact ⟨hl, nxt hi ⟨rfl, by rw [tk, e]; simp⟩⟩
  · rintro ys H ⟨rfl, rfl⟩
    rw [List.take_of_length_le (Nat.le_refl _)]
    exact hd
end
theorem inV_str (n : Str) : ∀ other : List Str, inV (.str n) (other.map V.str) = decide (n ∈ other)
  | [] => by simp [inV]
  | x :: r => by
    have ih := inV_str n r
    unfold inV at ih ⊢
    rw [List.map_cons, List.any_cons, ih]
    show (x == n || decide (n ∈ r)) = _
    by_cases e : n = x
    · subst e; simp
    · have e' : ¬ x = n := fun z => e z.symm
      simp [e, e']
theorem flat_strs : ∀ other : List Str, (other.map V.str).all flatV = true := fun other => by
  rw [List.all_eq_true]
  intro x hx
  obtain ⟨y, _, rfl⟩ := List.mem_map.mp hx
  rfl
def LsS (H : Hp) (a : Addr) (ss : List Str) : Prop := H a = some (.lst (ss.map V.str))
end My
namespace My
open PySem L2
abbrev sg : Str := "abcdefghijklmnopqrstuvwxyz0123456789"
def sgC (n : Nat) : Nat := sg.cps.toList.getD n 0
theorem sg_len : sg.cps.toList.length = 36 := by decide +kernel
theorem sg_nd : sg.cps.toList.Nodup := by decide +kernel
theorem sg_small : ∀ c ∈ sg.cps.toList, c < 128 := by decide +kernel
theorem sg_at {i : Int} (h0 : 0 ≤ i) (h1 : i < 36) : atI sg.cps.toList i = some (sgC i.toNat) := by
  have hk : i.toNat < sg.cps.toList.length := by rw [sg_len]; omega
  have := atI_nat (xs := sg.cps.toList) (j := i.toNat) (v := sgC i.toNat) (by
    unfold sgC
    rw [List.getD_eq_getElem?_getD, List.getElem?_eq_getElem hk]; rfl)
  rw [Int.toNat_of_nonneg h0] at this
  exact this
theorem sgC_inj {i j : Nat} (hi : i < 36) (hj : j < 36) (e : sgC i = sgC j) : i = j := by
  have hi' : i < sg.cps.toList.length := by rw [sg_len]; exact hi
  have hj' : j < sg.cps.toList.length := by rw [sg_len]; exact hj
  unfold sgC at e
  rw [List.getD_eq_getElem?_getD, List.getD_eq_getElem?_getD, List.getElem?_eq_getElem hi', List.getElem?_eq_getElem hj'] at e
  exact (List.getElem_inj sg_nd).mp e
theorem sgC_small {i : Nat} (hi : i < 36) : sgC i < 128 := by
  have hi' : i < sg.cps.toList.length := by rw [sg_len]; exact hi
  unfold sgC
  rw [List.getD_eq_getElem?_getD, List.getElem?_eq_getElem hi']
  exact sg_small _ (List.getElem_mem hi')
def Sm (x : Str) : Prop := ∀ c ∈ x.cps.toList, c < 128
theorem Sm.ok {x : Str} (h : Sm x) : PyData.strOk x = true := by
  unfold PyData.strOk
  rw [Array.all_eq_true_iff_forall_mem]
  intro c hc
  have := h c (by simpa using hc)
  exact decide_eq_true (by omega)
theorem Sm.app {x y : Str} (h : Sm x) (h' : Sm y) : Sm (x ++ y) := fun c hc => by
  rw [Str.cps_append, Array.toList_append, List.mem_append] at hc
  exact hc.elim (h c) (h' c)
theorem Sm.one {c : Nat} (h : c < 128) : Sm ⟨#[c]⟩ := fun d hd => by
  have : d = c := by simpa using hd
  omega
theorem Sm.nil : Sm "" := fun c hc => by
  have : c ∈ ([] : List Nat) := hc
  cases this
theorem Sm.slice {x : Str} (h : Sm x) (l u : Option Int) : Sm (Txt.slice x l u) := fun c hc => by
  unfold Txt.slice at hc
  split at hc
  · exact h c hc
  · simp only [List.mem_filterMap] at hc
    obtain ⟨i, _, hi⟩ := hc
    exact h c (by simpa using Array.mem_of_getElem? hi)
end My
namespace My
open PySem L2
def rowD (r : List Str) : PyData := .list (r.map .str)
def rowsD (F : List (List Str)) : PyData := .list (F.map rowD)
theorem eqv_strs : ∀ a b : List Str, PyData.eqvAll (a.map .str) (b.map .str) = decide (a = b)
  | [], [] => rfl
  | [], _ :: _ => rfl
  | _ :: _, [] => rfl
  | x :: a, y :: b => by
    show (x == y && PyData.eqvAll (a.map .str) (b.map .str)) = _
    rw [eqv_strs a b]
    by_cases e : x = y
    · subst e; simp
    · simp [e]
theorem eqv_row (a b : List Str) : PyData.eqv (rowD a) (rowD b) = decide (a = b) := eqv_strs a b
def SOk (r : List Str) : Prop := ∀ x ∈ r, PyData.strOk x = true
theorem lay_strs : ∀ {r : List Str}, SOk r → PyData.canLayAll0 (r.map .str) = true ∧ PyData.depthAll (r.map .str) = 0
  | [], _ => ⟨rfl, rfl⟩
  | x :: r, h => by
    obtain ⟨h1, h2⟩ := lay_strs (r := r) fun y hy => h y (List.mem_cons_of_mem _ hy)
    refine ⟨?_, ?_⟩
    · show (PyData.strOk x && PyData.canLayAll0 (r.map .str)) = true
      rw [h1, h x List.mem_cons_self]; rfl
    · show max 0 (PyData.depthAll (r.map .str)) = 0
      rw [h2]; rfl
theorem shaped_row {r : List Str} (h : SOk r) : SeqAt.shaped (rowD r) = true := by
  obtain ⟨h3, h4⟩ := lay_strs h
  show (PyData.canLayAll0 (r.map .str) && decide (PyData.depthAll (r.map .str) + 1 ≤ 64)) = true
  rw [h3, h4]; rfl
theorem dr_strs {K : PySem.W.Frag} {H : Hp} : ∀ r : List Str, DRs K H (r.map V.str) (r.map .str)
  | [] => .nil
  | x :: r => .cons (.str x) (dr_strs r)
theorem dr_row {K : PySem.W.Frag} {H : Hp} {a : Addr} {r : List Str} (h : LsS H a r) : DR K H (.ref a) (rowD r) := .lst (SqL.of h) (dr_strs r)
end My
namespace My
open PySem L2
theorem room64 {k : Nat} {A : Around} (hr : Room k A) : A.units + 64 < cLine := by have := hr.un; omega
theorem boot_list' : bootBuiltins "list" = some (.type "list") := by decide +kernel
theorem boot_sorted' : bootBuiltins "sorted" = some (.builtin "sorted") := by decide +kernel
theorem boot_all' : bootBuiltins "all" = some (.builtin "all") := by decide +kernel
theorem boot_set' : bootBuiltins "set" = some (.type "set") := by decide +kernel
theorem boot_tuple' : bootBuiltins "tuple" = some (.type "tuple") := by decide +kernel
end My
namespace L2
open PySem PySem.Spec PyProof.Rows
end L2
namespace My
open PySem L2
theorem snoc_ind {α : Type} {P : List α → Prop} (h0 : P []) (hs : ∀ l t, P l → P (l ++ [t])) (l : List α) : P l := by
  have : ∀ r : List α, P r.reverse := fun r => by
    induction r with
    | nil => exact h0
    | cons a r ih => rw [List.reverse_cons]; exact hs _ _ ih
  have q := this l.reverse
  rwa [List.reverse_reverse] at q
abbrev Tr := Str × Str × Str
def isPt (net : List Tr) (x : Str) : Prop := ∃ t ∈ net, x = t.2.1 ∨ x = t.2.2
theorem isPt_snoc {net : List Tr} {t : Tr} {x : Str} : isPt (net ++ [t]) x ↔ isPt net x ∨ x = t.2.1 ∨ x = t.2.2 := by
  unfold isPt
  constructor
  · rintro ⟨u, hu, h⟩
    rcases List.mem_append.mp hu with z | z
    · exact .inl ⟨u, z, h⟩
    · rw [List.mem_singleton] at z; subst z; exact .inr h
  · rintro (⟨u, hu, h⟩ | h)
    · exact ⟨u, List.mem_append_left _ hu, h⟩
    · exact ⟨t, List.mem_append_right _ (List.mem_singleton.mpr rfl), h⟩
end My
namespace My
open PySem L2
abbrev Rise (l : List Str) : Prop := l.Pairwise fun a b => sLtB a b = true
theorem rise_ext : ∀ {a b : List Str}, Rise a → Rise b → (∀ x, x ∈ a ↔ x ∈ b) → a = b
  | [], [], _, _, _ => rfl
  | [], y :: b, _, _, h => by have := (h y).mpr List.mem_cons_self; cases this
  | x :: a, [], _, _, h => by have := (h x).mp List.mem_cons_self; cases this
  | x :: a, y :: b, ha, hb, h => by
    obtain ⟨a1, a2⟩ := List.pairwise_cons.mp ha
    obtain ⟨b1, b2⟩ := List.pairwise_cons.mp hb
    have e : x = y := by
      rcases List.mem_cons.mp ((h x).mp List.mem_cons_self) with z | z
      · exact z
      · rcases List.mem_cons.mp ((h y).mpr List.mem_cons_self) with w | w
        · exact w.symm
        · have q := sLtB_trans (b1 x z) (a1 y w)
          rw [sLtB_irr] at q; cases q
    subst e
    refine congrArg _ (rise_ext a2 b2 fun z => ⟨fun hz => ?_, fun hz => ?_⟩)
    · rcases List.mem_cons.mp ((h z).mp (List.mem_cons_of_mem _ hz)) with w | w
      · have := a1 z hz; rw [w, sLtB_irr] at this; cases this
      · exact w
    · rcases List.mem_cons.mp ((h z).mpr (List.mem_cons_of_mem _ hz)) with w | w
      · have := b1 z hz; rw [w, sLtB_irr] at this; cases this
      · exact w
end My
namespace My
open PySem L2
abbrev trV (t : Tr) : List V := [.str t.1, .str t.2.1, .str t.2.2]
def NetAt (H : Hp) (p : Addr) (net : List Tr) : Prop := ∃ as : List Addr, H p = some (.lst (as.map V.ref)) ∧ Paired (fun a t => H a = some (.tup (trV t))) as net
theorem NetAt.ext {H H' : Hp} {p : Addr} {net : List Tr} (h : NetAt H p net) (e : Ext H H') : NetAt H' p net := by
  obtain ⟨as, h1, h2⟩ := h
  exact ⟨as, e _ _ h1, Paired.mapP h2 fun a t z => e _ _ z⟩
theorem paired_get {α β : Type} {R : α → β → Prop} : ∀ {as : List α} {bs : List β} {i : Nat} {a : α}, Paired R as bs → as[i]? = some a → ∃ b, bs[i]? = some b ∧ R a b
  | _, _, _, _, .nil, e => by simp at e
  | _, _, 0, _, .cons h _, e => by simp at e; subst e; exact ⟨_, rfl, h⟩
  | _, _, i + 1, _, .cons _ t, e => by
    obtain ⟨b, h1, h2⟩ := paired_get (i := i) t (by simpa using e)
    exact ⟨b, by simpa using h1, h2⟩
theorem net_get {H : Hp} {as : List Addr} {net : List Tr} {i : Nat} {x : V} (h : Paired (fun a t => H a = some (.tup (trV t))) as net) (e : (as.map V.ref)[i]? = some x) : ∃ a t, x = .ref a ∧ net[i]? = some t ∧ H a = some (.tup (trV t)) := by
  rw [List.getElem?_map] at e
  cases ha : as[i]? with
  | none => rw [ha] at e; cases e
  | some a =>
    rw [ha] at e
    obtain ⟨t, h1, h2⟩ := paired_get h ha
    exact ⟨a, t, (Option.some.inj e).symm, h1, h2⟩
theorem take_snoc {α : Type} {l : List α} {i : Nat} {t : α} (h : l[i]? = some t) : l.take (i + 1) = l.take i ++ [t] := by rw [List.take_add_one, h]; rfl
theorem at_lt {α : Type} {l : List α} {i : Nat} {t : α} (h : l[i]? = some t) : i < l.length := (List.getElem?_eq_some_iff.mp h).1
theorem rise_go : ∀ (l : List Str) (p : Str), PyProof.Rows.risingS p l = true → (p :: l).Nodup → Rise (p :: l)
  | [], p, _, _ => List.pairwise_singleton _ _
  | x :: r, p, h, nd => by
    have h' : (!PySem.Spec.ltCps x.cps.toList p.cps.toList && PyProof.Rows.risingS x r) = true := h
    rw [Bool.and_eq_true] at h'
    have nd' := List.nodup_cons.mp nd
    have ih := rise_go r x h'.2 nd'.2
    have px : sLtB p x = true := by
      have z := h'.1
      rw [PyProof.Rows.ltCps_eq] at z
      rcases sLtB_tri p x with t | t | t
      · exact t
      · exact absurd t (fun e => nd'.1 (by rw [e]; exact List.mem_cons_self))
      · rw [decide_eq_true (of_decide_eq_true t)] at z; cases z
    refine List.pairwise_cons.mpr ⟨fun y hy => ?_, ih⟩
    rcases List.mem_cons.mp hy with e | hy
    · rw [e]; exact px
    · exact sLtB_trans px ((List.pairwise_cons.mp ih).1 y hy)
theorem rise_of {l : List Str} (h : PyProof.Rows.sortedS l = true) (nd : l.Nodup) : Rise l := by
  cases l with
  | nil => exact List.Pairwise.nil
  | cons x r => exact rise_go r x h nd
def PtsOk (net : List Tr) (ps : List Str) : Prop := ps.Nodup ∧ ∀ x, x ∈ ps ↔ isPt net x
def spPoints : Sp := fun vs H Q _ => ∃ (p : Addr) (net : List Tr), vs = [.ref p] ∧ NetAt H p net ∧ net.length ≤ 12 ∧ ∀ r ps H', Ext H H' → H r = none → LsS H' r ps → PtsOk net ps → Rise ps → ps.length ≤ 24 → Q (.ref r) H'
section
variable {P : Program} {w : World} {K : PySem.W.Frag} {mg : Str → Option Value} {base : Heap} {f f1 : Addr} {fd fd1 : FuncData}
theorem scPoints : FnScope ["net"] ["net"] (defScope sPoints) := ⟨rfl, rfl, rfl, by decide +kernel, rfl, by decide +kernel, by decide +kernel⟩
abbrev ptN : List Str := ["tie", "one", "other", "end"]
set_option maxHeartbeats 4000000 in
theorem ok_points (F : Fun K "points" "points" sPoints f fd) (mso : mg "sorted" = none) : FnOk P w K mg base CX0 1 f fd ["net"] spPoints := by
  refine F.ok scPoints (fun vs H Q E h => ?_) (fun cdv A outer s H vs Q E hr h => ?_)
  · obtain ⟨p, net, rfl, _⟩ := h
    rfl
  obtain ⟨p, net, rfl, ⟨as, hp, pr⟩, hl, q⟩ := h
  refine ⟨_, pss_one (ps_ret (pe_callB (call_sortedSet rfl) rfl mso boot_sorted' (pa_cons
    (pe_g gc_set2 rfl (N := ["net"]) (sc := defScope sPoints) (N' := ptN) (sub := [none, none, none, none]) rfl rfl (CmpOk.of (by decide +kernel)) rfl (pi_list (pv 0))
      (fun C s H fp => ⟨(show PG _ _ (gTup K 3 _) from pg_tup rfl (pgs_cons (pg_name (i := 0) (by show ptN.Nodup; decide) rfl (Or.inl rfl)) (pgs_cons (pg_name (i := 1) (by show ptN.Nodup; decide) rfl (Or.inl rfl)) (pgs_cons (pg_name (i := 2) (by show ptN.Nodup; decide) rfl (Or.inl rfl)) pgs_nil)))), pts_nil,
        fun acc => pbd_nest rfl rfl (show PI _ _ _ (iTup K _) from pi_tup (pe_tup (pa_cons (pv 1) (pa_cons (pv 2) pa_nil)))) (pg_name (i := 3) (by show ptN.Nodup; decide) rfl (Or.inl rfl)) pts_nil (pbd_set rfl (pv 3)) (fun _ => rfl) rfl rfl (fun _ => rfl) (fun _ _ _ _ _ h => h) (fun _ _ _ _ _ h => h) (fun _ => rfl)⟩)) pa_nil))), ?_⟩
  have lA : as.length = net.length := pr.length
  refine ⟨_, rfl, p, rfl, ⟨_, SqL.of hp⟩, ?_⟩
  refine g_list (xs := as.map V.ref) (fun i ss σ H' => Ext H H' ∧ (∃ x0 x1 x2 x3 : Option V, σ = [x0, x1, x2, x3]) ∧ ss.Nodup ∧ (∀ x, x ∈ ss ↔ isPt (net.take i) x) ∧ ss.length ≤ 2 * i) ⟨Ext.refl _, ⟨none, none, none, none, rfl⟩, List.nodup_nil, fun x => ⟨fun z => (by cases z), fun ⟨t, ht, _⟩ => (by simp at ht)⟩, Nat.zero_le _⟩ (fun i ss σ H' _ h => SqL.of (h.1 _ _ hp)) ?_ ?_
  · rintro i x ss σ H' hx ⟨he, ⟨x0, x1, x2, x3, rfl⟩, nd, mem, ln⟩
    obtain ⟨a, t, rfl, ht, ha⟩ := net_get pr hx
    have hi := at_lt ht
    refine ⟨a, _, rfl, SqT.of (he _ _ ha), rfl, _, _, rfl, _, _, rfl, _, _, rfl, rfl, iteT (B := False) ?_⟩
    refine ⟨_, rfl, _, rfl, (by show 2 ≤ sizeLine; decide), fun T hT => ⟨T, rfl, ⟨_, SqT.of upd_same⟩, ?_⟩⟩
    have X1 := Ext.new hT (.tup [V.str t.2.1, V.str t.2.2])
    refine g_tuple (xs := [V.str t.2.1, V.str t.2.2]) (fun j ss σ H2 => Ext (upd H' T (.tup [V.str t.2.1, V.str t.2.2])) H2 ∧ (∃ y : Option V, σ = [some (.str t.1), some (.str t.2.1), some (.str t.2.2), y]) ∧ ss.Nodup ∧ (∀ x, x ∈ ss ↔ isPt (net.take i) x ∨ (0 < j ∧ x = t.2.1) ∨ (1 < j ∧ x = t.2.2)) ∧ ss.length ≤ 2 * i + j)
      ⟨Ext.refl _, ⟨_, rfl⟩, nd, fun x => by rw [mem]; simp, by omega⟩ (fun j ss σ H2 _ h => SqT.of (h.1 _ _ upd_same)) ?_ ?_
    · rintro j z ss2 σ H2 hz ⟨h2, ⟨y, rfl⟩, nd2, mem2, ln2⟩
      have hj : j < 2 := at_lt hz
      obtain ⟨v, rfl, hv⟩ : ∃ v : Str, z = .str v ∧ ((j = 0 ∧ v = t.2.1) ∨ (j = 1 ∧ v = t.2.2)) := by
        rcases (show j = 0 ∨ j = 1 by omega) with rfl | rfl
        · exact ⟨t.2.1, (Option.some.inj hz).symm, .inl ⟨rfl, rfl⟩⟩
        · exact ⟨t.2.2, (Option.some.inj hz).symm, .inr ⟨rfl, rfl⟩⟩
      refine iteT (B := False) ⟨_, rfl, v, rfl, by omega, fun ss3 h3 => nxg hj ⟨h2, ⟨_, rfl⟩, ?_⟩⟩
      have key : ss3.Nodup ∧ (∀ x, x ∈ ss3 ↔ x ∈ ss2 ∨ x = v) ∧ ss3.length ≤ ss2.length + 1 := by
        by_cases m : v ∈ ss2
        · rw [if_pos m] at h3
          subst h3
          exact ⟨nd2, fun x => ⟨.inl, fun z => z.elim id fun e => e ▸ m⟩, Nat.le_succ _⟩
        · rw [if_neg m] at h3
          refine ⟨h3.nodup_iff.mpr ?_, fun x => by rw [h3.mem_iff, List.mem_append, List.mem_singleton], by rw [h3.length_eq, List.length_append]; exact Nat.le_refl _⟩
          rw [List.nodup_append]
          exact ⟨nd2, by simp, fun y hy z hz => by rw [List.mem_singleton] at hz; subst hz; rintro rfl; exact m hy⟩
      refine ⟨key.1, fun x => ?_, by have := key.2.2; omega⟩
      rw [key.2.1, mem2]
      rcases hv with ⟨rfl, rfl⟩ | ⟨rfl, rfl⟩
      · simp
      · simp [or_assoc]
    · rintro ss2 σ H2 ⟨h2, ⟨y, rfl⟩, nd2, mem2, ln2⟩
      refine nxg (at_lt hx) ⟨he.trans (X1.trans h2), ⟨_, _, _, _, rfl⟩, nd2, fun x => ?_, by have : ss2.length ≤ 2 * i + 2 := ln2; omega⟩
      rw [mem2, take_snoc ht, isPt_snoc]
      simp
  · rintro ss σ H' ⟨he, _, nd, mem, ln⟩ r hr1
    rw [List.length_map, lA, List.take_of_length_le (Nat.le_refl _)] at mem
    rw [List.length_map, lA] at ln
    refine ⟨r, ss, rfl, upd_same, by omega, fun r2 ss2 hr2 pm srt => ?_⟩
    exact q r2 ss2 _ ((he.trans (Ext.new hr1 _)).trans (Ext.new hr2 _)) ((he.trans (Ext.new hr1 _)).none hr2) upd_same ⟨pm.nodup_iff.mpr nd, fun x => by rw [pm.mem_iff, mem]⟩ (rise_of srt (pm.nodup_iff.mpr nd)) (by rw [pm.length_eq]; omega)
end
end My
namespace My
open PySem L2
theorem Ext.over {H H' : Hp} {d : Addr} (e : Ext H H') (h : H d = Option.none) (o : HO) : Ext H (upd H' d o) := fun b u q => by rw [upd_ne (ne_of_none q h)]; exact e b u q
def hD (ps : List Str) (f : Str → Str) : List (Key × V) := ps.map fun p => (Sum.inr p, V.str (f p))
section
variable {P : Program} {w : World} {K : PySem.W.Frag} {mg : Str → Option Value} {base : Heap} {f f1 : Addr} {fd fd1 : FuncData}
end
end My
namespace My
open PySem L2
def RowsAt (H : Hp) (p : Addr) (F : List (List Str)) : Prop := ∃ as : List Addr, H p = some (.lst (as.map V.ref)) ∧ Paired (LsS H) as F
theorem RowsAt.ext {H H' : Hp} {p : Addr} {F : List (List Str)} (h : RowsAt H p F) (e : Ext H H') : RowsAt H' p F := by
  obtain ⟨as, h1, h2⟩ := h
  exact ⟨as, e _ _ h1, Paired.mapP h2 fun a r z => e _ _ z⟩
def RowsY (H0 H : Hp) (fo : Addr) (F : List (List Str)) : Prop := ∃ as : List Addr, H fo = some (.lst (as.map V.ref)) ∧ Paired (fun a r => LsS H a r ∧ H0 a = none ∧ a ≠ fo) as F
theorem RowsY.rows {H0 H : Hp} {p : Addr} {F : List (List Str)} (h : RowsY H0 H p F) : RowsAt H p F := by
  obtain ⟨as, h1, h2⟩ := h
  exact ⟨as, h1, Paired.mapP h2 fun a r z => z.1⟩
theorem RowsY.ext {H0 H H' : Hp} {p : Addr} {F : List (List Str)} (h : RowsY H0 H p F) (e : Ext H H') : RowsY H0 H' p F := by
  obtain ⟨as, h1, h2⟩ := h
  exact ⟨as, e _ _ h1, Paired.mapP h2 fun a r z => ⟨e _ _ z.1, z.2⟩⟩
def RowsZ (H0 H : Hp) (fo : Addr) (F : List (List Str)) : Prop := ∃ as : List Addr, as.Nodup ∧ H fo = some (.lst (as.map V.ref)) ∧ Paired (fun a r => LsS H a r ∧ H0 a = none ∧ a ≠ fo) as F
theorem RowsZ.y {H0 H : Hp} {p : Addr} {F : List (List Str)} (h : RowsZ H0 H p F) : RowsY H0 H p F := by
  obtain ⟨as, _, h1, h2⟩ := h
  exact ⟨as, h1, h2⟩
theorem paired_memA {α β : Type} {R : α → β → Prop} : ∀ {as : List α} {bs : List β}, Paired R as bs → ∀ a ∈ as, ∃ b ∈ bs, R a b
  | _, _, .nil, a, h => by cases h
  | _, _, .cons h t, a, ha => by
    rcases List.mem_cons.mp ha with rfl | z
    · exact ⟨_, List.mem_cons_self, h⟩
    · obtain ⟨b, hb, hr⟩ := paired_memA t a z
      exact ⟨b, List.mem_cons_of_mem _ hb, hr⟩
theorem getD_rangeA (as : List Addr) : (List.range as.length).map (fun i => as.getD i 0) = as := by
  refine List.ext_getElem? fun i => ?_
  by_cases hi : i < as.length
  · rw [List.getElem?_map, List.getElem?_range hi, List.getElem?_eq_getElem hi]
    show some (as.getD i 0) = _
    rw [List.getD_eq_getElem?_getD, List.getElem?_eq_getElem hi]; rfl
  · rw [List.getElem?_eq_none (by simp; omega), List.getElem?_eq_none (by omega)]
theorem pick_perm {as : List Addr} {o : Array Nat} (g : Gd as.length o) : (o.toList.map fun i => as.getD i 0).Perm as :=
  ((Array.perm_iff_toList_perm.mp g).map fun i => as.getD i 0).trans (List.Perm.of_eq (getD_rangeA as))
end My
namespace My
open PySem L2
def spBig (K : PySem.W.Frag) : Sp := fun vs H Q _ => ∃ (a : Addr) (ns : List Int) (k : Int), vs = [.ref a, .int k] ∧ SqL K H a (ns.map V.int) ∧ 0 ≤ k ∧ k ≤ 100 ∧ ∀ v, Q (.int v) H
def Tx (ss : List Str) : Prop := ∀ s ∈ ss, Sm s
def spNames : Sp := fun vs H Q _ => ∃ (b n : Int), vs = [.int b, .int n] ∧ 0 ≤ n ∧ n ≤ 100 ∧ ∀ (r : Addr) (ss : List Str) (H' : Hp), Ext H H' → H r = none → LsS H' r ss → ss.length = n.toNat → Tx ss → (n ≤ 36 → ss.Nodup) → Q (.ref r) H'
def nmF (pre post : Str) (f : Int) (k : Nat) : Str := pre ++ ⟨#[sgC ((f + 7 * (0 + (k : Int))) % 36).toNat]⟩ ++ post
theorem nmF_inj {pre post : Str} {f : Int} {i j : Nat} (hi : i < 36) (hj : j < 36) (e : nmF pre post f i = nmF pre post f j) : i = j := by
  have e1 := congrArg (fun s : Str => s.cps.toList) e
  unfold nmF at e1
  simp only [Str.cps_append, Array.toList_append] at e1
  have e2 := List.append_cancel_left (List.append_cancel_right e1)
  have a0 := Int.emod_nonneg (f + 7 * (0 + (i : Int))) (show (36 : Int) ≠ 0 by decide)
  have a1 := Int.emod_lt_of_pos (f + 7 * (0 + (i : Int))) (show (0 : Int) < 36 by decide)
  have b0 := Int.emod_nonneg (f + 7 * (0 + (j : Int))) (show (36 : Int) ≠ 0 by decide)
  have b1 := Int.emod_lt_of_pos (f + 7 * (0 + (j : Int))) (show (0 : Int) < 36 by decide)
  have e3 : sgC ((f + 7 * (0 + (i : Int))) % 36).toNat = sgC ((f + 7 * (0 + (j : Int))) % 36).toNat := by simpa using e2
  have e4 := sgC_inj (by omega) (by omega) e3
  omega
theorem nd_range {g : Nat → Str} : ∀ {n : Nat}, (∀ i j, i < n → j < n → g i = g j → i = j) → ((List.range n).map g).Nodup
  | 0, _ => List.nodup_nil
  | n + 1, h => by
    rw [List.range_succ, List.map_append, List.nodup_append]
    refine ⟨nd_range fun i j hi hj => h i j (by omega) (by omega), by simp, fun a ha b hb => ?_⟩
    obtain ⟨i, hi, rfl⟩ := List.mem_map.mp ha
    rw [List.map_singleton, List.mem_singleton] at hb
    subst hb
    rw [List.mem_range] at hi
    intro z
    have := h i n (by omega) (by omega) z
    omega
section
variable {P : Program} {w : World} {K : PySem.W.Frag} {mg : Str → Option Value} {base : Heap} {f f1 f2 : Addr} {fd fd1 fd2 : FuncData}
abbrev bgN : List Str := ["_law_script", "_law_k", "_law_x", "_law_total", "_law_j"]
theorem scBig : FnScope bgN ["_law_script", "_law_k"] (defScope sBig) := ⟨rfl, rfl, rfl, by decide +kernel, rfl, by decide +kernel, by decide +kernel⟩
set_option maxHeartbeats 4000000 in
theorem ok_big (F : Fun K "_law_big" "_law_big" sBig f fd) (G : FnOk P w K mg base CX0 1 f1 fd1 ["_law_script", "_law_k"] (spCell K)) (bG : Binds K fd1 ["_law_script", "_law_k"] []) (kG : PySem.W.keepIn K (.ref f1) = true) (mG : mg "_law_cell_at" = some (.ref f1)) (mr : mg "range" = none) (ma : mg "abs" = none) :
    FnOk P w K mg base CX0 2 f fd ["_law_script", "_law_k"] (spBig K) := by
  refine F.ok scBig (fun vs H Q E h => ?_) (fun cdv A outer s H vs Q E hr h => ?_)
  · obtain ⟨a, ns, k, rfl, _⟩ := h
    rfl
  obtain ⟨a, ns, k, rfl, hS, h0, h1, q⟩ := h
  refine ⟨_, pss_cons (ps_if (pt_cmpR op_ge (pe_callB call_abs rfl ma boot_abs' (pa_cons (pe_call G hr rfl mG kG bG .nil pass0 (pa_cons (pv 0) (pa_cons (pv 1) pa_nil))) pa_nil)) (pe_op op_pow pe_int pe_int) (nomark _))
      (pss_one (ps_ret (pe_op op_sub (pe_callB call_abs rfl ma boot_abs' (pa_cons (pe_call G hr rfl mG kG bG .nil pass0 (pa_cons (pv 0) (pa_cons (pv 1) pa_nil))) pa_nil)) (pe_op op_pow pe_int pe_int)))) pss_nil)
    (pss_cons (ps_set (i := 2) scBig.nd rfl (Or.inl rfl) (pe_op op_add (pe_op op_add (pe_op op_add (pe_op op_mod (pe_call G hr rfl mG kG bG .nil pass0 (pa_cons (pv 0) (pa_cons pe_int pa_nil))) pe_int) (pe_op op_mul pe_int (pv 1))) (pe_op op_mul pe_int (pe_call G hr rfl mG kG bG .nil pass0 (pa_cons (pv 0) (pa_cons (pv 1) pa_nil))))) pe_int))
    (pss_cons (ps_set (i := 2) scBig.nd rfl (Or.inl rfl) (pe_op op_add (pe_op op_mod (pv 2) pe_int) pe_int))
    (pss_cons (ps_set (i := 3) scBig.nd rfl (Or.inl rfl) pe_int)
    (pss_cons (ps_for PassesOwn.never rfl (pi_range1 rfl mr (pa_cons pe_int pa_nil)) (pg_name (i := 4) scBig.nd rfl (Or.inl rfl))
      (pss_cons (ps_set (i := 2) scBig.nd rfl (Or.inl rfl) (pe_op op_mod (pe_op op_add (pe_op op_add (pe_op op_add (pe_op op_mul (pv 2) pe_int) (pe_op op_fdiv (pv 2) pe_int)) (pe_op op_mul (pe_op op_mul pe_int (pv 4)) (pv 4))) (pv 1)) pe_int))
      (pss_one (ps_set (i := 3) scBig.nd rfl (Or.inl rfl) (pe_op op_add (pe_op op_mul (pv 3) pe_int) (pe_op op_mod (pe_op op_mul (pv 2) pe_int) pe_int))))))
    (pss_one (ps_ret (pv 3))))))), ?_⟩
  refine ⟨_, rfl, _, rfl, a, ns, k, rfl, hS, h0, fun v => ⟨v, rfl, ?_⟩⟩
  refine ⟨_, _, rfl, rfl, ⟨by decide, by decide, by decide⟩, _, _, rfl, rfl, _, rfl, ?_⟩
  refine ite2 (fun c => ?_) (fun c => ?_)
  · refine ⟨_, rfl, _, rfl, a, ns, k, rfl, hS, h0, fun v => ⟨v, rfl, ?_⟩⟩
    exact ⟨_, _, rfl, rfl, ⟨by decide, by decide, by decide⟩, _, _, rfl, rfl, q _⟩
  refine ⟨_, rfl, a, ns, 0, rfl, hS, by decide, fun v1 => ?_⟩
  refine ⟨_, _, rfl, rfl, (by show (0 : Int) < _; decide), _, rfl, _, _, rfl, rfl, .inl ⟨by decide, by decide⟩, _, _, rfl, rfl, ?_⟩
  refine ⟨_, rfl, _, rfl, a, ns, k, rfl, hS, h0, fun v2 => ?_⟩
  refine ⟨_, _, rfl, rfl, .inl ⟨by decide, by decide⟩, _, _, rfl, rfl, _, _, rfl, rfl, ?_⟩
  refine ⟨_, rfl, _, _, rfl, rfl, (by show (0 : Int) < _; decide), _, _, rfl, rfl, ?_⟩
  refine ⟨8, rfl, by decide, by decide, for_range (lo := 0) (n := 8) (fun i σ H' => H' = H ∧ ∃ (x t : Int) (z : Option V), σ = [some (.ref a), some (.int k), some (.int x), some (.int t), z]) ⟨rfl, _, 0, none, rfl⟩ ?_ ?_⟩
  · rintro i σ H' hi ⟨rfl, x, t, z, rfl⟩
    refine ⟨_, rfl, _, _, rfl, rfl, .inr ⟨by decide, by decide⟩, _, rfl, _, _, rfl, rfl, ⟨by decide, by decide⟩, _, _, rfl, rfl, ?_⟩
    refine ⟨_, rfl, _, _, rfl, rfl, .inl ⟨by decide, by decide⟩, _, rfl, _, _, rfl, rfl, .inr ⟨by omega, by omega⟩, _, _, rfl, rfl, ?_⟩
    refine ⟨_, rfl, _, _, rfl, rfl, _, _, rfl, rfl, (by show (0 : Int) < _; decide), ?_⟩
    refine ⟨_, rfl, _, _, rfl, rfl, .inr ⟨by decide, by decide⟩, _, rfl, _, _, rfl, rfl, .inr ⟨by decide, by decide⟩, _, _, rfl, rfl, (by show (0 : Int) < _; decide), _, _, rfl, rfl, ?_⟩
    exact ⟨rfl, _, _, _, rfl⟩
  · rintro σ H' ⟨rfl, x, t, z, rfl⟩
    exact ⟨_, rfl, q _⟩
abbrev naN : List Str := ["_law_big_here", "_law_many", "_law_signs", "_law_word", "_law_k", "_law_spot", "_law_first", "_law_head", "_law_tail"]
theorem scNames : FnScope naN ["_law_big_here", "_law_many"] (defScope sNames) := ⟨rfl, rfl, rfl, by decide +kernel, rfl, by decide +kernel, by decide +kernel⟩
set_option maxHeartbeats 4000000 in
theorem ok_names (F : Fun K "_law_names" "_law_names" sNames f fd) (mr : mg "range" = none) (ml : mg "len" = none) : FnOk P w K mg base CX0 1 f fd ["_law_big_here", "_law_many"] spNames := by
  refine F.ok scNames (fun vs H Q E h => ?_) (fun cdv A outer s H vs Q E hr h => ?_)
  · obtain ⟨b, n, rfl, _⟩ := h
    rfl
  obtain ⟨b, n, rfl, n0, n1, q⟩ := h
  refine ⟨_, pss_cons (ps_set (i := 2) scNames.nd rfl (Or.inr rfl) pe_str)
    (pss_cons (ps_set (i := 3) scNames.nd rfl (Or.inl rfl) pe_str)
    (pss_cons (ps_for PassesOwn.never rfl (pi_range1 rfl mr (pa_cons (pe_op op_add pe_int (pe_op op_mod (pv 0) pe_int)) pa_nil)) (pg_name (i := 4) scNames.nd rfl (Or.inl rfl))
      (pss_cons (ps_set (i := 3) scNames.nd rfl (Or.inl rfl) (pe_op op_add_str (pv 3) (pe_ix ix_str (pv 2) (pe_op op_mod (pe_op op_fdiv (pv 0) pe_int) pe_int) (fun _ _ => rfl))))
      (pss_one (ps_set (i := 0) scNames.nd rfl (Or.inl rfl) (pe_op op_fdiv (pv 0) pe_int)))))
    (pss_cons (ps_set (i := 5) scNames.nd rfl (Or.inl rfl) (pe_op op_mod (pe_op op_fdiv (pv 0) pe_int) (pe_callB call_len_str rfl ml PySem.boot_len (pa_cons (pv 3) pa_nil))))
    (pss_cons (ps_set (i := 6) scNames.nd rfl (Or.inr rfl) (pe_op op_mod (pe_op op_fdiv (pv 0) pe_int) pe_int))
    (pss_cons (ps_asg (pe_tup (pa_cons (pe_slice sl_str (pv 3) po_none (po_some (pv 5))) (pa_cons (pe_slice sl_str (pv 3) (po_some (pe_op op_add (pv 5) pe_int)) po_none) pa_nil))) (pg_tup rfl (pgs_cons (pg_name (i := 7) scNames.nd rfl (Or.inr rfl)) (pgs_cons (pg_name (i := 8) scNames.nd rfl (Or.inr rfl)) pgs_nil))))
    (pss_one (ps_ret (pe_lc (N := naN) (sc := defScope sNames) (N' := ["_law_k", "_law_head", "_law_signs", "_law_first", "_law_tail"]) (sub := [none, some 7, some 2, some 6, some 8]) rfl rfl (CmpOk.of (by decide +kernel)) rfl (pi_range1 rfl mr (pa_cons (pv 1) pa_nil))
      (fun C s H fp => ⟨pg_name (i := 0) (by show (["_law_k", "_law_head", "_law_signs", "_law_first", "_law_tail"] : List Str).Nodup; decide) rfl (Or.inl rfl), pts_nil,
        pe_op op_add_str (pe_op op_add_str (pv 1) (pe_ix ix_str (pv 2) (pe_op op_mod (pe_op op_add (pv 3) (pe_op op_mul pe_int (pv 0))) pe_int) (fun _ _ => rfl))) (pv 4)⟩))))))))), ?_⟩
  have b6 := Int.emod_nonneg b (show (6 : Int) ≠ 0 by decide)
  have b6' := Int.emod_lt_of_pos b (show (0 : Int) < 6 by decide)
  refine ⟨_, rfl, _, _, rfl, rfl, (by show (0 : Int) < _; decide), _, _, rfl, rfl, 1 + b % 6, rfl, by omega, by omega, ?_⟩
  refine for_range (lo := 0) (n := (1 + b % 6).toNat) (fun i σ H' => H' = H ∧ ∃ (b' : Int) (word : Str) (x : Option V), σ = [some (.int b'), some (.int n), some (.str sg), some (.str word), x, none, none, none, none] ∧ word.length = i ∧ Sm word) ⟨rfl, b, "", none, rfl, rfl, Sm.nil⟩ ?_ ?_
  · rintro i σ H' hi ⟨rfl, b', word, x, rfl, hw, sm⟩
    have c1 := Int.emod_nonneg (b' / 6) (show (36 : Int) ≠ 0 by decide)
    have c2 := Int.emod_lt_of_pos (b' / 6) (show (0 : Int) < 36 by decide)
    refine ⟨_, rfl, _, rfl, _, rfl, _, _, rfl, rfl, ⟨by decide, by decide⟩, _, _, rfl, rfl, (by show (0 : Int) < _; decide), sg, _, sgC (b' / 6 % 36).toNat, rfl, rfl, by decide +kernel, sg_at c1 c2, word, ⟨#[sgC (b' / 6 % 36).toNat]⟩, rfl, rfl, ?_, ?_⟩
    · show word.length + 1 ≤ sizeLine
      exact Nat.le_of_lt (small1000 (by omega))
    · refine ⟨_, rfl, _, _, rfl, rfl, ⟨by decide, by decide⟩, ?_⟩
      refine ⟨rfl, _, _, _, rfl, ?_, sm.app (Sm.one (sgC_small (by omega)))⟩
      rw [Str.length_append]
      show word.length + 1 = i + 1
      omega
  · rintro σ H' ⟨rfl, b', word, x, rfl, hw, sm⟩
    have wl : word.length ≤ sizeLine := Nat.le_of_lt (small1000 (by omega))
    have fa := Int.emod_nonneg (b' / 216) (show (36 : Int) ≠ 0 by decide)
    have fb := Int.emod_lt_of_pos (b' / 216) (show (0 : Int) < 36 by decide)
    refine ⟨_, rfl, _, _, rfl, rfl, ⟨by decide, by decide⟩, _, rfl, word, rfl, wl, _, _, rfl, rfl, (by show (0 : Int) < _; omega), ?_⟩
    refine ⟨_, rfl, _, _, rfl, rfl, ⟨by decide, by decide⟩, _, _, rfl, rfl, (by show (0 : Int) < _; decide), ?_⟩
    obtain ⟨spot, hsp⟩ : ∃ spot, b' / 6 % ((word.length : Nat) : Int) = spot := ⟨_, rfl⟩
    refine ⟨_, rfl, _, rfl, _, rfl, word, rfl, wl, _, rfl, _, rfl, _, _, rfl, rfl, _, rfl, word, rfl, wl, (by show 2 ≤ sizeLine; decide), fun T hT => ⟨T, _, rfl, SqT.of upd_same, rfl, _, _, rfl, _, _, rfl, rfl, ?_⟩⟩
    have l1 := Txt.slice_le word none (some spot)
    have l2 := Txt.slice_le word (some (spot + 1)) none
    have s1 := sm.slice none (some spot)
    have s2 := sm.slice (some (spot + 1)) none
    have X1 := Ext.new hT (.tup [V.str (Txt.slice word none (some spot)), V.str (Txt.slice word (some (spot + 1)) none)])
    refine ⟨_, rfl, n, rfl, by omega, by omega, ?_⟩
    refine turns_range (lo := 0) (n := n.toNat) (fun i ys H2 => H2 = upd H' T (.tup [V.str (Txt.slice word none (some spot)), V.str (Txt.slice word (some (spot + 1)) none)]) ∧ ∃ ss : List Str, ys = ss.map V.str ∧ ss.length = i ∧ Tx ss ∧ ss = (List.range i).map (nmF (Txt.slice word none (some spot)) (Txt.slice word (some (spot + 1)) none) (b' / 216 % 36))) ⟨by rw [hsp], [], rfl, rfl, (fun s hs => by cases hs), rfl⟩ ?_ ?_
    · rintro i ys H2 hi ⟨rfl, ss, rfl, ls, tx, eq⟩
      have ea := Int.emod_nonneg (b' / 216 % 36 + 7 * (0 + (i : Int))) (show (36 : Int) ≠ 0 by decide)
      have eb := Int.emod_lt_of_pos (b' / 216 % 36 + 7 * (0 + (i : Int))) (show (0 : Int) < 36 by decide)
      rw [hsp]
      refine ⟨Sle.set _ (Sle.refl _) (fun u z => by cases z), iteT (B := False) ⟨_, rfl, _, rfl, _, rfl, _, rfl, _, _, rfl, rfl, .inl ⟨by decide, by decide⟩, _, _, rfl, rfl, _, _, rfl, rfl, (by show (0 : Int) < _; decide), sg, _, sgC ((b' / 216 % 36 + 7 * (0 + (i : Int))) % 36).toNat, rfl, rfl, by decide +kernel, sg_at ea eb, _, _, rfl, rfl, ?_, _, rfl, _, _, rfl, rfl, ?_, ?_, nxt hi ⟨rfl, ss ++ [Txt.slice word none (some spot) ++ ⟨#[sgC ((b' / 216 % 36 + 7 * (0 + (i : Int))) % 36).toNat]⟩ ++ Txt.slice word (some (spot + 1)) none], ?_, ?_, ?_, ?_⟩⟩⟩
      · show _ + 1 ≤ sizeLine
        exact Nat.le_of_lt (small1000 (by omega))
      · rw [Str.length_append]
        show _ + 1 + _ ≤ sizeLine
        exact Nat.le_of_lt (small1000 (by omega))
      · rw [List.length_map]
        exact small1000 (by omega)
      · rw [List.map_append]; rfl
      · rw [List.length_append, ls]; rfl
      · intro s hs
        rcases List.mem_append.mp hs with z | z
        · exact tx s z
        · rw [List.mem_singleton] at z
          subst z
          exact (s1.app (Sm.one (sgC_small (by omega)))).app s2
      · rw [eq, List.range_succ, List.map_append]; rfl
    · rintro ys H2 ⟨rfl, ss, rfl, ls, tx, eq⟩ r hr'
      exact q r ss _ (X1.trans (Ext.new hr' _)) (X1.none hr') upd_same ls tx (fun n36 => by rw [eq]; exact nd_range fun i j hi hj => nmF_inj (by omega) (by omega))
end
end My
namespace My
open PySem L2
abbrev enV (e : Int × Int) : List V := [.int e.1, .int e.2]
def EndsAt (H : Hp) (p : Addr) (es : List (Int × Int)) : Prop := ∃ as : List Addr, H p = some (.lst (as.map V.ref)) ∧ Paired (fun a e => H a = some (.tup (enV e))) as es
theorem EndsAt.ext {H H' : Hp} {p : Addr} {es : List (Int × Int)} (h : EndsAt H p es) (e : Ext H H') : EndsAt H' p es := by
  obtain ⟨as, h1, h2⟩ := h
  exact ⟨as, e _ _ h1, Paired.mapP h2 fun a t z => e _ _ z⟩
theorem EndsAt.snoc {H H' : Hp} {k a : Addr} {as : List Addr} {net : List (Int × Int)} {t : Int × Int} (hk : H k = some (.lst (as.map V.ref))) (pr : Paired (fun a t => H a = some (.tup (enV t))) as net) (e : Ext H H') (ha : H' a = some (.tup (enV t))) : EndsAt (upd H' k (.lst (as.map V.ref ++ [V.ref a]))) k (net ++ [t]) := by
  have hk' := e _ _ hk
  have ne : ∀ {b : Addr} {xs : List V}, H' b = some (.tup xs) → b ≠ k := fun h z => by rw [z, hk'] at h; cases h
  refine ⟨as ++ [a], by rw [upd_same, List.map_append]; rfl, ?_⟩
  refine Paired.snoc (Paired.mapP pr fun b u z => ?_) ?_
  · have z' := e _ _ z
    rw [upd_ne (ne z')]; exact z'
  · rw [upd_ne (ne ha)]; exact ha
theorem at_int {hs : List Int} {i : Int} (h0 : 0 ≤ i) (h1 : i < (hs.length : Int)) : ∃ v, atI (hs.map V.int) i = some (.int v) := by
  have hk : i.toNat < hs.length := by omega
  have hv : atI (hs.map V.int) ((i.toNat : Nat) : Int) = some (.int hs[i.toNat]) := atI_nat (by rw [List.getElem?_map, List.getElem?_eq_getElem hk] <;> rfl)
  rw [Int.toNat_of_nonneg h0] at hv
  exact ⟨_, hv⟩
def InSp (sp : Int) (e : Int × Int) : Prop := (0 ≤ e.1 ∧ e.1 < sp) ∧ 0 ≤ e.2 ∧ e.2 < sp
def spEnds : Sp := fun vs H Q _ => ∃ (b n sp : Int), vs = [.int b, .int n, .int sp] ∧ 0 ≤ n ∧ n ≤ 12 ∧ 0 < sp ∧ sp ≤ 10 ∧ ∀ r es H', Ext H H' → H r = none → EndsAt H' r es → es.length ≤ n.toNat → (∀ e ∈ es, InSp sp e) → Q (.ref r) H'
section
variable {P : Program} {w : World} {K : PySem.W.Frag} {mg : Str → Option Value} {base : Heap} {f f1 f2 : Addr} {fd fd1 fd2 : FuncData}
abbrev eN : List Str := ["_law_big_here", "_law_many", "_law_spread", "_law_heaps", "_law_found", "_law_high", "_law_k", "_law_one", "_law_other", "_law_gone"]
theorem scEnds : FnScope eN ["_law_big_here", "_law_many", "_law_spread"] (defScope sEnds) := ⟨rfl, rfl, rfl, by decide +kernel, rfl, by decide +kernel, by decide +kernel⟩
structure EI (H : Hp) (sp n : Int) (i : Nat) (σ : St) (H' : Hp) (b' h : Int) (hp fo : Addr) (hs : List Int) (es : List (Int × Int)) : Prop where
  st : ∃ x6 x7 x8 x9 : Option V, σ = [some (.int b'), some (.int n), some (.int sp), some (.ref hp), some (.ref fo), some (.int h), x6, x7, x8, x9]
  ext : Ext H H'
  fo0 : H fo = none
  ne : hp ≠ fo
  hsA : H' hp = some (.lst (hs.map V.int))
  hsl : (hs.length : Int) = sp
  esA : EndsAt H' fo es
  esl : es.length ≤ i
  esi : ∀ e ∈ es, InSp sp e
set_option maxHeartbeats 8000000 in
theorem ok_ends (F : Fun K "_law_ends" "_law_ends" sEnds f fd) (mr : mg "range" = none) (ml : mg "len" = none) (mL : mg "list" = none) : FnOk P w K mg base CX0 1 f fd ["_law_big_here", "_law_many", "_law_spread"] spEnds := by
  refine F.ok scEnds (fun vs H Q E h => ?_) (fun cdv A outer s H vs Q E hr h => ?_)
  · obtain ⟨b, n, sp, rfl, _⟩ := h
    rfl
  obtain ⟨b, n, sp, rfl, n0, n1, p0, p1, q⟩ := h
  refine ⟨_, pss_cons (ps_set (i := 3) scEnds.nd rfl (Or.inr rfl) (pe_callTy (call_list_rng rfl) rfl mL boot_list' (pa_cons (pe_callTy call_range1' rfl mr boot_range' (pa_cons (pv 2) pa_nil)) pa_nil)))
    (pss_cons (ps_set (i := 4) scEnds.nd rfl (Or.inl rfl) (pe_lst pa_nil))
    (pss_cons (ps_set (i := 5) scEnds.nd rfl (Or.inl rfl) pe_int)
    (pss_cons (ps_for PassesOwn.never rfl (pi_range1 rfl mr (pa_cons (pv 1) pa_nil)) (pg_name (i := 6) scEnds.nd rfl (Or.inl rfl))
      (pss_cons (ps_asg (pe_tup (pa_cons (pe_op op_mod (pv 0) (pv 2)) (pa_cons (pe_op op_mod (pe_op op_fdiv (pv 0) (pv 2)) (pv 2)) pa_nil))) (pg_tup rfl (pgs_cons (pg_name (i := 7) scEnds.nd rfl (Or.inr rfl)) (pgs_cons (pg_name (i := 8) scEnds.nd rfl (Or.inl rfl)) pgs_nil))))
      (pss_cons (ps_set (i := 0) scEnds.nd rfl (Or.inl rfl) (pe_op op_fdiv (pe_op op_fdiv (pv 0) (pv 2)) (pv 2)))
      (pss_one (ps_if (PW.pt (pw_and (pt_cmpR op_eq (pe_ix ix_list (pv 3) (pv 7) (fun _ _ => rfl)) (pe_ix ix_list (pv 3) (pv 8) (fun _ _ => rfl)) (nomark _)) (pw_and1 (pt_cmpR op_lt (pe_op op_sub (pe_callB call_len_seq rfl ml PySem.boot_len (pa_cons (pv 4) pa_nil)) (pv 5)) pe_int (nomark _)))))
        (pss_one (ps_expr (pe_bm PySem.F.plainAttrs_list PySem.F.slot_list_append PySem.F.type_list_append mt_append (pv 4) (pa_cons (pe_tup (pa_cons (pv 7) (pa_cons (pv 8) pa_nil))) pa_nil))))
        (pss_one (ps_if (PW.pt (pw_and (pt_cmpR op_ne (pe_ix ix_list (pv 3) (pv 7) (fun _ _ => rfl)) (pe_ix ix_list (pv 3) (pv 8) (fun _ _ => rfl)) (nomark _)) (pw_and1 (pt_cmpR op_lt (pv 5) pe_int (nomark _)))))
          (pss_cons (ps_expr (pe_bm PySem.F.plainAttrs_list PySem.F.slot_list_append PySem.F.type_list_append mt_append (pv 4) (pa_cons (pe_tup (pa_cons (pv 7) (pa_cons (pv 8) pa_nil))) pa_nil)))
          (pss_cons (ps_aug (i := 5) scEnds.nd rfl (Or.inl rfl) pe_int ip_add)
          (pss_cons (ps_set (i := 9) scEnds.nd rfl (Or.inr rfl) (pe_ix ix_list (pv 3) (pv 8) (fun _ _ => rfl)))
          (pss_one (ps_set (i := 3) scEnds.nd rfl (Or.inr rfl) (pe_lc (N := eN) (sc := defScope sEnds) (N' := ["_law_heap", "_law_heaps", "_law_one", "_law_gone"]) (sub := [none, some 3, some 7, some 9]) rfl rfl (CmpOk.of (by decide +kernel)) rfl (pi_list (pv 3))
            (fun C s H fp => ⟨pg_name (i := 0) (by show (["_law_heap", "_law_heaps", "_law_one", "_law_gone"] : List Str).Nodup; decide) rfl (Or.inl rfl), pts_nil, pe_ifExp (pt_cmpR op_eq (pv 0) (pv 3) (nomark _)) (pe_ix (show IxR _ (rIxL K) from ix_list) (pv 1) (pv 2) (fun _ _ => rfl)) (pv 0)⟩)))))))
          pss_nil)))))))
    (pss_one (ps_ret (pv 4)))))), ?_⟩
  refine ⟨_, rfl, sp, rfl, by omega, by omega, fun rg hrg => ⟨rg, sp, rfl, upd_same, by omega, by omega, fun hp hhp => ?_⟩⟩
  have X1 := Ext.new hrg (.rng 0 sp)
  have X2 := X1.trans (Ext.new hhp (.lst ((List.range sp.toNat).map fun (i : Nat) => V.int (i : Int))))
  refine ⟨Nat.zero_le _, fun fo hfo => ?_⟩
  have f0 := X2.none hfo
  refine ⟨_, rfl, n, rfl, by omega, by omega, for_range (lo := 0) (n := n.toNat) (fun i σ H' => ∃ b' h hp fo hs es, EI H sp n i σ H' b' h hp fo hs es)
    ⟨b, 0, hp, fo, (List.range sp.toNat).map fun (i : Nat) => (i : Int), [], ⟨_, _, _, _, rfl⟩, X2.trans (Ext.new hfo _), f0, fun e => (by rw [← e, upd_same] at hfo; cases hfo), ?_, ?_, ⟨[], upd_same, .nil⟩, Nat.le_refl _, fun e he => by cases he⟩ ?_ ?_⟩
  · rw [upd_ne (fun e => by rw [← e, upd_same] at hfo; cases hfo), upd_same, List.map_map]; rfl
  · rw [List.length_map, List.length_range]; omega
  · rintro i σ H' hi ⟨b', h, hp, fo, hs, es, ⟨x6, x7, x8, x9, rfl⟩, ext, fo0, ne, hsA, hsl, esA, esl, esi⟩
    have sp0 : (0 : Int) < sp := p0
    have o0 := Int.emod_nonneg b' (show sp ≠ 0 by omega)
    have o1 := Int.emod_lt_of_pos b' p0
    have t0 := Int.emod_nonneg (b' / sp) (show sp ≠ 0 by omega)
    have t1 := Int.emod_lt_of_pos (b' / sp) p0
    have cd : CDiv (b' / sp) sp := ⟨p0, by omega⟩
    have cd' : CDiv b' sp := ⟨p0, by omega⟩
    refine ⟨_, rfl, _, rfl, _, _, rfl, rfl, p0, _, rfl, _, rfl, _, _, rfl, rfl, cd', _, rfl, _, _, rfl, rfl, p0, (by show 2 ≤ sizeLine; decide), fun T hT => ⟨T, _, rfl, SqT.of upd_same, rfl, _, _, rfl, _, _, rfl, rfl, ?_⟩⟩
    have X3 := Ext.new hT (.tup [V.int (b' % sp), V.int (b' / sp % sp)])
    refine ⟨_, rfl, _, rfl, _, _, rfl, rfl, cd', _, rfl, _, _, rfl, rfl, cd, ?_⟩
    obtain ⟨v1, a1⟩ := at_int (hs := hs) o0 (by omega)
    obtain ⟨v2, a2⟩ := at_int (hs := hs) t0 (by omega)
    have hs3 := X3 _ _ hsA
    have es3 := esA.ext X3
    obtain ⟨as, ea1, ea2⟩ := id esA
    have la : as.length = es.length := ea2.length
    have inn : InSp sp ((b' % sp), (b' / sp % sp)) := ⟨⟨o0, o1⟩, t0, t1⟩
    refine ⟨_, rfl, _, rfl, hp, _, _, _, rfl, rfl, SqL.of hs3, a1, _, rfl, _, rfl, hp, _, _, _, rfl, rfl, SqL.of hs3, a2, rfl, _, rfl, ?_⟩
    refine ite2 (fun c => ?_) (fun c => ?_)
    · refine ⟨_, rfl, fo, _, rfl, .inl (SqL.of (X3 _ _ ea1)), _, rfl, _, _, rfl, rfl, _, _, rfl, rfl, _, rfl, ?_⟩
      refine ite2 (fun c2 => ?_) (fun c2 => ?_)
      · refine ⟨_, rfl, .inl ⟨rfl, _, SqL.of (X3 _ _ ea1)⟩, _, rfl, _, rfl, (by show 2 ≤ sizeLine; decide), fun T2 hT2 => ?_⟩
        have X4 := X3.trans (Ext.new hT2 (.tup (enV ((b' % sp), (b' / sp % sp)))))
        refine ⟨fo, _, _, rfl, rfl, X4 _ _ ea1, by rw [List.length_map]; exact small1000 (by omega), ?_⟩
        refine ⟨_, _, hp, fo, hs, es ++ [((b' % sp), (b' / sp % sp))], ⟨_, _, _, _, rfl⟩, (ext.trans X4).over fo0 _, fo0, ne, by rw [upd_ne ne]; exact X4 _ _ hsA, hsl, EndsAt.snoc ea1 ea2 X4 upd_same, by rw [List.length_append]; exact Nat.succ_le_succ esl, fun e he => ?_⟩
        rcases List.mem_append.mp he with z | z
        · exact esi e z
        · rw [List.mem_singleton] at z; subst z; exact inn
      · refine ⟨_, rfl, _, rfl, hp, _, _, _, rfl, rfl, SqL.of hs3, a1, _, rfl, _, rfl, hp, _, _, _, rfl, rfl, SqL.of hs3, a2, rfl, _, rfl, ?_⟩
        refine ite2 (fun c3 => ?_) (fun c3 => ?_)
        · have e1 : v1 = v2 := by simpa using c
          have e2 : ¬ v1 = v2 := by simpa using c3
          exact absurd e1 e2
        · refine iteF ?_
          exact ⟨_, _, hp, fo, hs, es, ⟨_, _, _, _, rfl⟩, ext.trans X3, fo0, ne, hs3, hsl, es3, by omega, esi⟩
    · refine iteF ?_
      refine ⟨_, rfl, _, rfl, hp, _, _, _, rfl, rfl, SqL.of hs3, a1, _, rfl, _, rfl, hp, _, _, _, rfl, rfl, SqL.of hs3, a2, rfl, _, rfl, ?_⟩
      refine ite2 (fun c3 => ?_) (fun c3 => ?_)
      · refine ⟨_, rfl, _, _, rfl, rfl, _, rfl, ?_⟩
        refine ite2 (fun c2 => ?_) (fun c2 => ?_)
        · refine ⟨_, rfl, .inl ⟨rfl, _, SqL.of (X3 _ _ ea1)⟩, _, rfl, _, rfl, (by show 2 ≤ sizeLine; decide), fun T2 hT2 => ?_⟩
          have X4 := X3.trans (Ext.new hT2 (.tup (enV ((b' % sp), (b' / sp % sp)))))
          refine ⟨fo, _, _, rfl, rfl, X4 _ _ ea1, by rw [List.length_map]; exact small1000 (by omega), ?_⟩
          have hs4 : upd (upd (upd H' T (.tup [V.int (b' % sp), V.int (b' / sp % sp)])) T2 (.tup (enV ((b' % sp), (b' / sp % sp))))) fo (.lst (as.map V.ref ++ [V.ref T2])) hp = some (.lst (hs.map V.int)) := by rw [upd_ne ne]; exact X4 _ _ hsA
          have en4 := EndsAt.snoc (t := ((b' % sp), (b' / sp % sp))) ea1 ea2 X4 upd_same
          have X5 := (ext.trans X4).over fo0 (.lst (as.map V.ref ++ [V.ref T2]))
          refine ⟨_, rfl, _, _, rfl, rfl, ?_⟩
          refine ⟨_, rfl, _, rfl, hp, _, _, _, rfl, rfl, SqL.of hs4, a2, ?_⟩
          refine ⟨_, rfl, hp, rfl, ⟨_, SqL.of hs4⟩, ?_⟩
          refine turns_pure (fun v => some (if v = .int v2 then .int v1 else v)) (SqL.of hs4) (by rw [List.length_map]; exact Nat.le_of_lt (small1000 (by omega))) (fun x hx C hC => ?_) (fun r hr' => ?_)
          · obtain ⟨y, _, rfl⟩ := List.mem_map.mp hx
            refine ⟨Sle.set _ (Sle.refl _) (fun u z => by cases z), iteT (B := False) ?_⟩
            refine ⟨_, rfl, _, rfl, rfl, _, rfl, ?_⟩
            refine ite2 (fun c5 => ?_) (fun c5 => ?_)
            · have e5 : y = v2 := by simpa using c5
              subst e5
              refine ⟨_, rfl, _, rfl, hp, _, _, _, rfl, rfl, SqL.of hs4, a1, ?_⟩
              rw [if_pos rfl] at hC
              exact hC
            · have e5 : ¬ y = v2 := by simpa using c5
              rw [if_neg (fun z => e5 (V.int.inj z))] at hC
              exact ⟨_, rfl, hC⟩
          · have rf : r ≠ fo := fun e => by rw [e, upd_same] at hr'; cases hr'
            have em : (hs.map V.int).filterMap (fun v => some (if v = .int v2 then .int v1 else v)) = (hs.map fun y => if y = v2 then v1 else y).map V.int := by
              rw [List.filterMap_eq_map', List.map_map, List.map_map]
              refine List.map_congr_left fun y _ => ?_
              show (if V.int y = V.int v2 then V.int v1 else V.int y) = V.int (if y = v2 then v1 else y)
              by_cases z : y = v2
              · subst z; rw [if_pos rfl, if_pos rfl]
              · rw [if_neg (fun e => z (V.int.inj e)), if_neg z]
            rw [em]
            refine ⟨_, _, r, fo, _, es ++ [((b' % sp), (b' / sp % sp))], ⟨_, _, _, _, rfl⟩, X5.trans (Ext.new hr' _), fo0, rf, upd_same, by rw [List.length_map]; exact hsl, en4.ext (Ext.new hr' _), by rw [List.length_append]; exact Nat.succ_le_succ esl, fun e he => ?_⟩
            rcases List.mem_append.mp he with z | z
            · exact esi e z
            · rw [List.mem_singleton] at z; subst z; exact inn
        · exact ⟨_, _, hp, fo, hs, es, ⟨_, _, _, _, rfl⟩, ext.trans X3, fo0, ne, hs3, hsl, es3, by omega, esi⟩
      · refine iteF ?_
        exact ⟨_, _, hp, fo, hs, es, ⟨_, _, _, _, rfl⟩, ext.trans X3, fo0, ne, hs3, hsl, es3, by omega, esi⟩
  · rintro σ H' ⟨b', h, hp, fo, hs, es, ⟨x6, x7, x8, x9, rfl⟩, ext, fo0, ne, hsA, hsl, esA, esl, esi⟩
    exact ⟨_, rfl, q fo es H' ext fo0 esA esl esi⟩
end
end My
namespace L2
open PySem PySem.Spec PyProof.Rows
theorem for_pairs {n : Nat} {Ls : Hp → Prop} {xv : Nat → List V} {g : TG} {tb : TS} {D : Ends} {σ : St} {H : Hp} (Pv : Nat → St → Hp → Prop) (h0 : Pv 0 σ H) (hl : ∀ i σ H, i ≤ n → Pv i σ H → Ls H)
    (hs : ∀ i σ H T, i < n → Pv i σ H → H T = none → g (.ref T) σ (upd H T (.tup (xv i))) fun σ2 H2 => tb { D with nx := Pv (i + 1), ct := Pv (i + 1), bk := D.nx } σ2 H2) (hd : ∀ σ H, Pv n σ H → D.nx σ H) :
    ∃ W : Nat → Nat → St → Hp → Prop, (∃ m, W 0 m σ H) ∧ ∀ i m σ H, W i m σ H →
      ((Itp n Ls xv).stop i H ∧ D.nx σ H) ∨ ((Itp n Ls xv).go i H ∧ ∃ N : St → Hp → Prop, (∀ σ' H', N σ' H' → ∃ m', m' < m ∧ W (i + 1) m' σ' H') ∧ ∀ x H', (Itp n Ls xv).yld i H x H' → g x σ H' fun σ2 H2 => tb { D with nx := N, ct := N, bk := D.nx } σ2 H2) := by
  refine ⟨fun i m σ H => m = n - i ∧ i ≤ n ∧ Pv i σ H, ⟨n, by simp, Nat.zero_le _, h0⟩, ?_⟩
  rintro i m σ H ⟨rfl, hi, p⟩
  have q := hl i σ H hi p
  by_cases hlt : i < n
  · refine .inr ⟨⟨q, hlt⟩, Pv (i + 1), fun σ' H' p' => ⟨n - (i + 1), by omega, rfl, hlt, p'⟩, fun x H' y => ?_⟩
    obtain ⟨T, e1, e2, e3⟩ := y
    subst e2 e3
    exact hs i σ H T hlt p e1
  · have e : i = n := by omega
    subst e
    exact .inl ⟨⟨q, rfl⟩, hd σ H p⟩
end L2
namespace My
open PySem L2
theorem at_intM {hs : List Int} {i : Int} (h0 : 0 ≤ i) (h1 : i < (hs.length : Int)) : ∃ v ∈ hs, atI (hs.map V.int) i = some (.int v) := by
  have hk : i.toNat < hs.length := by omega
  have hv : atI (hs.map V.int) ((i.toNat : Nat) : Int) = some (.int hs[i.toNat]) := atI_nat (by rw [List.getElem?_map, List.getElem?_eq_getElem hk] <;> rfl)
  rw [Int.toNat_of_nonneg h0] at hv
  exact ⟨_, List.getElem_mem hk, hv⟩
theorem at_strM {hs : List Str} {i : Int} (h0 : 0 ≤ i) (h1 : i < (hs.length : Int)) : ∃ v ∈ hs, atI (hs.map V.str) i = some (.str v) := by
  have hk : i.toNat < hs.length := by omega
  have hv : atI (hs.map V.str) ((i.toNat : Nat) : Int) = some (.str hs[i.toNat]) := atI_nat (by rw [List.getElem?_map, List.getElem?_eq_getElem hk] <;> rfl)
  rw [Int.toNat_of_nonneg h0] at hv
  exact ⟨_, List.getElem_mem hk, hv⟩
theorem paired_mem {α β : Type} {R : α → β → Prop} : ∀ {as : List α} {bs : List β}, Paired R as bs → ∀ a ∈ as, ∃ b ∈ bs, R a b
  | _, _, .nil, a, h => by cases h
  | _, _, .cons h t, a, ha => by
    rcases List.mem_cons.mp ha with rfl | z
    · exact ⟨_, List.mem_cons_self, h⟩
    · obtain ⟨b, hb, hr⟩ := paired_mem t a z
      exact ⟨b, List.mem_cons_of_mem _ hb, hr⟩
theorem paired_map {α β γ : Type} {R : α → β → Prop} {S : α → γ → Prop} (g : β → γ) (h : ∀ a b, R a b → S a (g b)) : ∀ {as : List α} {bs : List β}, Paired R as bs → Paired S as (bs.map g)
  | _, _, .nil => .nil
  | _, _, .cons x t => .cons (h _ _ x) (paired_map g h t)
theorem NetAt.snoc {H H' : Hp} {k a : Addr} {as : List Addr} {net : List Tr} {t : Tr} (hk : H k = some (.lst (as.map V.ref))) (pr : Paired (fun a t => H a = some (.tup (trV t))) as net) (e : Ext H H') (ha : H' a = some (.tup (trV t))) : NetAt (upd H' k (.lst (as.map V.ref ++ [V.ref a]))) k (net ++ [t]) := by
  have hk' := e _ _ hk
  have ne : ∀ {b : Addr} {xs : List V}, H' b = some (.tup xs) → b ≠ k := fun h z => by rw [z, hk'] at h; cases h
  refine ⟨as ++ [a], by rw [upd_same, List.map_append]; rfl, ?_⟩
  refine Paired.snoc (Paired.mapP pr fun b u z => ?_) ?_
  · have z' := e _ _ z
    rw [upd_ne (ne z')]; exact z'
  · rw [upd_ne (ne ha)]; exact ha
def rowT (t : Tr) : List Str := [t.1, t.2.1, t.2.2]
def t0 : Tr := ("", "", "")
theorem rowT_at : ∀ {net : List Tr} {i : Nat}, i < net.length → rowT (net.getD i t0) = (net.map rowT).getD i []
  | [], _, h => absurd h (Nat.not_lt_zero _)
  | t :: r, 0, _ => rfl
  | t :: r, i + 1, h => by simpa using rowT_at (net := r) (i := i) (by simpa using h)
theorem net_pick {H : Hp} : ∀ {as : List Addr} {net : List Tr} {i : Nat}, Paired (fun a t => H a = some (.tup (trV t))) as net → i < as.length → H (as.getD i 0) = some (.tup (trV (net.getD i t0)))
  | _, _, i, .nil, hi => absurd hi (Nat.not_lt_zero _)
  | _, _, 0, .cons h _, _ => h
  | _, _, i + 1, .cons _ t, hi => by simpa using net_pick (i := i) t (by simpa using hi)
theorem net_picks {H : Hp} {as : List Addr} {net : List Tr} (pr : Paired (fun a t => H a = some (.tup (trV t))) as net) : ∀ {l : List Nat}, (∀ i ∈ l, i < as.length) → Paired (fun a t => H a = some (.tup (trV t))) (l.map fun i => as.getD i 0) (l.map fun i => net.getD i t0)
  | [], _ => .nil
  | i :: l, h => .cons (net_pick pr (h i List.mem_cons_self)) (net_picks pr fun j hj => h j (List.mem_cons_of_mem _ hj))
theorem rows_picks {net : List Tr} : ∀ {l : List Nat}, (∀ i ∈ l, i < net.length) → (l.map fun i => net.getD i t0).map rowT = l.map fun i => (net.map rowT).getD i []
  | [], _ => rfl
  | i :: l, h => by
    rw [List.map_cons, List.map_cons, List.map_cons, rows_picks fun j hj => h j (List.mem_cons_of_mem _ hj), rowT_at (h i List.mem_cons_self)]
theorem rowT_inj {t u : Tr} (e : rowT t = rowT u) : t = u := by
  obtain ⟨a, b, c⟩ := t
  obtain ⟨a', b', c'⟩ := u
  unfold rowT at e
  simp at e
  obtain ⟨e1, e2, e3⟩ := e
  subst e1 e2 e3; rfl
theorem map_names (net : List Tr) : (net.map rowT).map (fun r => r.getD 0 "") = net.map (·.1) := by
  rw [List.map_map]; rfl
theorem rise_srt : ∀ {net : List Tr}, Srt (net.map rowT) → (net.map (·.1)).Nodup → Rise (net.map (·.1))
  | [], _, _ => List.Pairwise.nil
  | t :: r, h, nd => by
    rw [List.map_cons] at h nd
    obtain ⟨h1, h2⟩ := List.pairwise_cons.mp h
    obtain ⟨n1, n2⟩ := List.nodup_cons.mp nd
    rw [List.map_cons]
    refine List.pairwise_cons.mpr ⟨fun x hx => ?_, rise_srt h2 n2⟩
    obtain ⟨u, hu, rfl⟩ := List.mem_map.mp hx
    have q := h1 (rowT u) (List.mem_map_of_mem hu)
    have ne : ¬ u.1 = t.1 := fun z => n1 (z ▸ List.mem_map_of_mem hu)
    unfold rowT ltL at q
    rw [if_neg ne] at q
    rcases sLtB_tri t.1 u.1 with z | z | z
    · exact z
    · exact absurd z.symm ne
    · rw [z] at q; cases q
def TxT (t : Tr) : Prop := Sm t.1 ∧ Sm t.2.1 ∧ Sm t.2.2
def TxN (net : List Tr) : Prop := ∀ t ∈ net, TxT t
def PtB (net : List Tr) : Prop := ∃ kn : List Str, kn.length ≤ 10 ∧ ∀ t ∈ net, t.2.1 ∈ kn ∧ t.2.2 ∈ kn
def spNet (K : PySem.W.Frag) : Sp := fun vs H Q _ => ∃ (a : Addr) (ns : List Int), vs = [.ref a, .int 1] ∧ SqL K H a (ns.map V.int) ∧ ∀ r net H', Ext H H' → H r = none → NetAt H' r net → net.length ≤ 12 → TxN net → Rise (net.map (·.1)) → PtB net → Q (.ref r) H'
section
variable {P : Program} {w : World} {K : PySem.W.Frag} {mg : Str → Option Value} {base : Heap} {f f1 f2 f3 : Addr} {fd fd1 fd2 fd3 : FuncData}
abbrev neN : List Str := ["_law_script", "_law_at", "_law_head", "_law_ends_here", "_law_ties", "_law_knots", "_law_net_here", "_law_tie", "_law_two"]
theorem scNet : FnScope neN ["_law_script", "_law_at"] (defScope sNet) := ⟨rfl, rfl, rfl, by decide +kernel, rfl, by decide +kernel, by decide +kernel⟩
abbrev spr : List Int := [4, 5, 3, 6, 5, 9, 2, 10]
set_option maxHeartbeats 8000000 in
theorem ok_net (F : Fun K "_law_net" "_law_net" sNet f fd)
    (G1 : FnOk P w K mg base CX0 2 f1 fd1 ["_law_script", "_law_k"] (spBig K)) (bG1 : Binds K fd1 ["_law_script", "_law_k"] []) (kG1 : PySem.W.keepIn K (.ref f1) = true) (mG1 : mg "_law_big" = some (.ref f1))
    (G2 : FnOk P w K mg base CX0 1 f2 fd2 ["_law_big_here", "_law_many", "_law_spread"] spEnds) (bG2 : Binds K fd2 ["_law_big_here", "_law_many", "_law_spread"] []) (kG2 : PySem.W.keepIn K (.ref f2) = true) (mG2 : mg "_law_ends" = some (.ref f2))
    (G3 : FnOk P w K mg base CX0 1 f3 fd3 ["_law_big_here", "_law_many"] spNames) (bG3 : Binds K fd3 ["_law_big_here", "_law_many"] []) (kG3 : PySem.W.keepIn K (.ref f3) = true) (mG3 : mg "_law_names" = some (.ref f3))
    (ml : mg "len" = none) (mz : mg "zip" = none) (mtu : mg "tuple" = none) (mso : mg "sorted" = none) : FnOk P w K mg base CX0 3 f fd ["_law_script", "_law_at"] (spNet K) := by
  refine F.ok scNet (fun vs H Q E h => ?_) (fun cdv A outer s H vs Q E hr h => ?_)
  · obtain ⟨a, ns, rfl, _⟩ := h
    rfl
  obtain ⟨a, ns, rfl, hS, q⟩ := h
  have hr1 := hr.mono (j := 1) (by decide)
  refine ⟨_, pss_cons (ps_set (i := 2) scNet.nd rfl (Or.inl rfl) (pe_call G1 hr rfl mG1 kG1 bG1 .nil pass0 (pa_cons (pv 0) (pa_cons (pv 1) pa_nil))))
    (pss_cons (ps_set (i := 3) scNet.nd rfl (Or.inl rfl) (pe_call G2 hr1 rfl mG2 kG2 bG2 .nil pass0 (pa_cons (pe_call G1 hr rfl mG1 kG1 bG1 .nil pass0 (pa_cons (pv 0) (pa_cons (pe_op op_add (pv 1) pe_int) pa_nil))) (pa_cons (pe_op op_mod (pe_op op_fdiv (pv 2) pe_int) pe_int) (pa_cons
        (pe_ix ix_list (pe_lst (pa_cons pe_int (pa_cons pe_int (pa_cons pe_int (pa_cons pe_int (pa_cons pe_int (pa_cons pe_int (pa_cons pe_int (pa_cons pe_int pa_nil))))))))) (pe_op op_mod (pv 2) pe_int) (fun _ _ => rfl)) pa_nil)))))
    (pss_cons (ps_set (i := 4) scNet.nd rfl (Or.inl rfl) (pe_call G3 hr1 rfl mG3 kG3 bG3 .nil pass0 (pa_cons (pe_op op_fdiv (pv 2) pe_int) (pa_cons (pe_callB call_len_seq rfl ml PySem.boot_len (pa_cons (pv 3) pa_nil)) pa_nil))))
    (pss_cons (ps_set (i := 5) scNet.nd rfl (Or.inl rfl) (pe_call G3 hr1 rfl mG3 kG3 bG3 .nil pass0 (pa_cons (pe_call G1 hr rfl mG1 kG1 bG1 .nil pass0 (pa_cons (pv 0) (pa_cons (pe_op op_add (pv 1) pe_int) pa_nil))) (pa_cons pe_int pa_nil))))
    (pss_cons (ps_set (i := 6) scNet.nd rfl (Or.inl rfl) (pe_lst pa_nil))
    (pss_cons (ps_for PassesOwn.never rfl (pi_zip rfl mz (pa_cons (pv 4) (pa_cons (pv 3) pa_nil))) (pg_tup rfl (pgs_cons (pg_name (i := 7) scNet.nd rfl (Or.inl rfl)) (pgs_cons (pg_name (i := 8) scNet.nd rfl (Or.inl rfl)) pgs_nil)))
      (pss_one (ps_expr (pe_bm PySem.F.plainAttrs_list PySem.F.slot_list_append PySem.F.type_list_append mt_append (pv 6) (pa_cons
        (pe_op op_catT (pe_tup (pa_cons (pv 7) pa_nil)) (pe_callTy call_tuple_of rfl mtu boot_tuple' (pa_cons (pe_callB call_sortedS rfl mso boot_sorted' (pa_cons
          (pe_lst (pa_cons (pe_ix ix_list (pv 5) (pe_ix ix_tup (pv 8) pe_int (fun _ _ => rfl)) (fun _ _ => rfl)) (pa_cons (pe_ix ix_list (pv 5) (pe_ix ix_tup (pv 8) pe_int (fun _ _ => rfl)) (fun _ _ => rfl)) pa_nil))) pa_nil)) pa_nil))) pa_nil)))))
    (pss_one (ps_ret (pe_callB call_sortedTO rfl mso boot_sorted' (pa_cons (pv 6) pa_nil))))))))), ?_⟩
  refine ⟨_, rfl, _, rfl, a, ns, 1, rfl, hS, by decide, by decide, fun hd => ?_⟩
  have d1 := Int.emod_nonneg (hd / 8) (show (13 : Int) ≠ 0 by decide)
  have d2 := Int.emod_lt_of_pos (hd / 8) (show (0 : Int) < 13 by decide)
  have d3 := Int.emod_nonneg hd (show (8 : Int) ≠ 0 by decide)
  have d4 := Int.emod_lt_of_pos hd (show (0 : Int) < 8 by decide)
  refine ⟨_, rfl, _, rfl, _, _, rfl, rfl, a, ns, _, rfl, hS, by decide, by decide, fun v1 => ?_⟩
  refine ⟨_, rfl, _, _, rfl, rfl, ⟨by decide, by decide⟩, _, _, rfl, rfl, (by show (0 : Int) < _; decide), (by show 8 ≤ sizeLine; decide), fun L hL => ?_⟩
  have X1 := Ext.new hL (.lst (spr.map V.int))
  obtain ⟨sp, spm, spa⟩ := at_intM (hs := spr) d3 (by show hd % 8 < 8; exact d4)
  have spb : 0 < sp ∧ sp ≤ 10 := by
    have : ∀ z ∈ spr, 0 < z ∧ z ≤ 10 := by decide
    exact this sp spm
  refine ⟨_, rfl, _, _, rfl, rfl, (by show (0 : Int) < _; decide), L, spr.map V.int, _, _, rfl, rfl, SqL.of upd_same, spa, ?_⟩
  refine ⟨_, _, sp, rfl, d1, by omega, spb.1, spb.2, fun en es H2 e2 en0 hen esl esi => ?_⟩
  have E2 := X1.trans e2
  obtain ⟨bs, hb1, hb2⟩ := id hen
  have lb : bs.length = es.length := hb2.length
  have esl' : es.length ≤ 12 := by omega
  refine ⟨_, rfl, _, _, rfl, rfl, ⟨by decide, by decide⟩, _, rfl, en, _, rfl, .inl (SqL.of hb1), ?_⟩
  refine ⟨_, _, rfl, by omega, by rw [List.length_map]; omega, fun tl ts H3 e3 tl0 htl tsl tsx tnd => ?_⟩
  have E3 := E2.trans e3
  refine ⟨_, rfl, _, rfl, _, _, rfl, rfl, a, ns, _, rfl, E3.sqL hS, by decide, by decide, fun v2 => ?_⟩
  refine ⟨_, 10, rfl, by decide, by decide, fun kl kn H4 e4 kl0 hkl knl knx _ => ?_⟩
  have E4 := E3.trans e4
  refine ⟨Nat.zero_le _, fun nl hnl => ?_⟩
  have nl0 := E4.none hnl
  have E5 := E4.trans (Ext.new hnl (.lst []))
  have tsl' : ts.length = es.length := by rw [tsl, List.length_map, lb]; omega
  have mn : min (ts.map V.str).length (bs.map V.ref).length = es.length := by rw [List.length_map, List.length_map, lb, tsl']; exact Nat.min_self _
  have htl5 := (Ext.new hnl (.lst [])) _ _ (e4 _ _ htl)
  have hen5 := (Ext.new hnl (.lst [])) _ _ (e4 _ _ (e3 _ _ hb1))
  refine ⟨_, rfl, _, rfl, tl, en, _, _, rfl, SqL.of htl5, SqL.of hen5, ?_⟩
  refine for_pairs (fun i σ H6 => ∃ (x7 x8 : Option V) (net : List Tr), σ = [some (.ref a), some (.int 1), some (.int hd), some (.ref en), some (.ref tl), some (.ref kl), some (.ref nl), x7, x8] ∧ Ext H4 H6 ∧ NetAt H6 nl net ∧ net.length = i ∧ TxN net ∧ net.map (·.1) = ts.take i ∧ ∀ t ∈ net, t.2.1 ∈ kn ∧ t.2.2 ∈ kn)
    ⟨none, none, [], rfl, Ext.new hnl _, ⟨[], upd_same, .nil⟩, rfl, (fun t ht => by cases ht), rfl, fun t ht => (by cases ht)⟩ ?_ ?_ ?_
  · rintro i σ H6 _ ⟨x7, x8, net, _, e6, _⟩
    exact ⟨SqL.of (e6 _ _ (e4 _ _ htl)), SqL.of (e6 _ _ (e4 _ _ (e3 _ _ hb1)))⟩
  · rintro i σ H6 T hi ⟨x7, x8, net, rfl, e6, nt, nl', tx, nm, kb⟩ hT
    rw [mn] at hi
    have hit : i < ts.length := by omega
    have hib : i < bs.length := by omega
    have g1 : (ts.map V.str).getD i .non = .str ts[i] := by rw [List.getD_eq_getElem?_getD, List.getElem?_map, List.getElem?_eq_getElem hit]; rfl
    have g2 : (bs.map V.ref).getD i .non = .ref bs[i] := by rw [List.getD_eq_getElem?_getD, List.getElem?_map, List.getElem?_eq_getElem hib]; rfl
    obtain ⟨e, he, hbe⟩ := paired_get hb2 (List.getElem?_eq_getElem hib)
    obtain ⟨⟨i0, i1⟩, j0, j1⟩ := esi e (List.mem_of_getElem? he)
    obtain ⟨k1, k1m, k1a⟩ := at_strM (hs := kn) i0 (by rw [knl]; show e.1 < 10; omega)
    obtain ⟨k2, k2m, k2a⟩ := at_strM (hs := kn) j0 (by rw [knl]; show e.2 < 10; omega)
    obtain ⟨as, ea1, ea2⟩ := id nt
    have la : as.length = net.length := ea2.length
    dsimp only
    rw [g1, g2]
    have Y1 := Ext.new hT (.tup [V.str ts[i], V.ref bs[i]])
    refine ⟨T, _, rfl, SqT.of upd_same, rfl, _, _, rfl, _, _, rfl, rfl, ?_⟩
    refine ⟨_, rfl, .inl ⟨rfl, _, SqL.of (Y1 _ _ ea1)⟩, _, rfl, (by show 1 ≤ sizeLine; decide), fun T1 hT1 => ?_⟩
    have Y2 := Y1.trans (Ext.new hT1 (.tup [V.str ts[i]]))
    have hb6 := Y2 _ _ (e6 _ _ (e4 _ _ (e3 _ _ hbe)))
    have hk6 := Y2 _ _ (e6 _ _ hkl)
    refine ⟨_, rfl, _, rfl, bs[i], _, _, _, rfl, rfl, SqT.of hb6, (by exact atI_nat (j := 0) rfl), kl, _, _, _, rfl, rfl, SqL.of hk6, k1a, ?_⟩
    refine ⟨_, rfl, _, rfl, bs[i], _, _, _, rfl, rfl, SqT.of hb6, (by exact atI_nat (j := 1) rfl), kl, _, _, _, rfl, rfl, SqL.of hk6, k2a, ?_⟩
    refine ⟨(by show 2 ≤ sizeLine; decide), fun L2 hL2 => ⟨L2, [k1, k2], rfl, SqL.of upd_same, (by show 2 < 64; decide), fun S ss hS' perm srt => ?_⟩⟩
    have Y3 := Y2.trans (Ext.new hL2 (.lst [V.str k1, V.str k2]))
    have Y4 := Y3.trans (Ext.new hS' (.lst (ss.map V.str)))
    refine ⟨S, _, rfl, .inl ⟨SqL.of upd_same, fun T2 hT2 => ?_⟩⟩
    have lss : ss.length = 2 := perm.length_eq
    obtain ⟨x, y, rfl⟩ : ∃ x y, ss = [x, y] := by
      match ss, lss with
      | [x, y], _ => exact ⟨x, y, rfl⟩
    have sx : Sm x := by
      have : x ∈ [k1, k2] := perm.mem_iff.mp (by simp)
      simp at this
      rcases this with rfl | rfl
      · exact knx _ k1m
      · exact knx _ k2m
    have sy : Sm y := by
      have : y ∈ [k1, k2] := perm.mem_iff.mp (by simp)
      simp at this
      rcases this with rfl | rfl
      · exact knx _ k1m
      · exact knx _ k2m
    have Y5 := Y4.trans (Ext.new hT2 (.tup ([x, y].map V.str)))
    have t1 : upd (upd H6 T (.tup [V.str ts[i], V.ref bs[i]])) T1 (.tup [V.str ts[i]]) T1 = some (.tup [V.str ts[i]]) := upd_same
    have t15 := Ext.new hT2 (.tup ([x, y].map V.str)) _ _ (Ext.new hS' (.lst ([x, y].map V.str)) _ _ (Ext.new hL2 (.lst [V.str k1, V.str k2]) _ _ t1))
    refine ⟨T1, T2, _, _, rfl, rfl, SqT.of t15, SqT.of upd_same, (by simp), (by show 3 ≤ sizeLine; decide), (fun z => by cases z), fun _ T3 hT3 => ?_⟩
    have Y6 := Y5.trans (Ext.new hT3 (.tup (trV (ts[i], x, y))))
    refine ⟨nl, _, _, rfl, rfl, Y6 _ _ ea1, ?_, ?_⟩
    · rw [List.length_map]; exact small1000 (by omega)
    ·
      have xk : x ∈ kn := by
        have : x ∈ [k1, k2] := perm.mem_iff.mp (by simp)
        simp at this
        rcases this with rfl | rfl
        · exact k1m
        · exact k2m
      have yk : y ∈ kn := by
        have : y ∈ [k1, k2] := perm.mem_iff.mp (by simp)
        simp at this
        rcases this with rfl | rfl
        · exact k1m
        · exact k2m
      have kb2 : ∀ t ∈ net ++ [(ts[i], x, y)], t.2.1 ∈ kn ∧ t.2.2 ∈ kn := fun t ht => by
        rcases List.mem_append.mp ht with z | z
        · exact kb t z
        · rw [List.mem_singleton] at z
          subst z
          exact ⟨xk, yk⟩
      refine ⟨_, _, net ++ [(ts[i], x, y)], rfl, (e6.trans Y6).over hnl _, NetAt.snoc ea1 ea2 Y6 upd_same, by rw [List.length_append, nl']; rfl, (fun t ht => ?_), by rw [List.map_append, nm, take_snoc (List.getElem?_eq_getElem hit)]; rfl, kb2⟩
      rcases List.mem_append.mp ht with z | z
      · exact tx t z
      · rw [List.mem_singleton] at z
        subst z
        exact ⟨tsx _ (List.getElem_mem hit), sx, sy⟩
  · rintro σ H6 ⟨x7, x8, net, rfl, e6, nt, nl', tx, nm, kb⟩
    rw [mn] at nl' nm
    obtain ⟨as, ea1, ea2⟩ := id nt
    have la : as.length = net.length := ea2.length
    refine ⟨_, rfl, nl, as, net.map rowT, rfl, SqL.of ea1, paired_map _ (fun a t z => ⟨SqT.of z, by simp [rowT]⟩) ea2, by omega, fun r o hr' g sp => ?_⟩
    have E6 := E4.trans e6
    have gm : ∀ i ∈ o.toList, i < as.length := fun i hi => gd_mem g hi
    have gm' : ∀ i ∈ o.toList, i < net.length := fun i hi => by have := gm i hi; omega
    have gl := gd_len g
    have lt : as.length = (net.map rowT).length := by rw [List.length_map]; exact la
    rw [lt] at g sp
    obtain ⟨s1, s2⟩ := order_rows g sp
    rw [← rows_picks gm'] at s1 s2
    have nd : ((o.toList.map fun i => net.getD i t0).map (·.1)).Nodup := by
      rw [← map_names]
      refine (s2.map _).nodup_iff.mpr ?_
      rw [map_names, nm, ← tsl', List.take_of_length_le (Nat.le_refl _)]
      refine tnd ?_
      rw [List.length_map]; omega
    refine q r (o.toList.map fun i => net.getD i t0) _ (E6.trans (Ext.new hr' _)) (E6.none hr') ⟨_, upd_same, Paired.mapP (net_picks ea2 gm) fun a' t z => Ext.new hr' _ _ _ z⟩ ?_ (fun t ht => ?_) (rise_srt s1 nd) ⟨kn, (by rw [knl]; decide), fun t ht => ?_⟩
    · rw [List.length_map, gl]; omega
    · have m : rowT t ∈ net.map rowT := s2.mem_iff.mp (List.mem_map_of_mem ht)
      obtain ⟨u, hu, e⟩ := List.mem_map.mp m
      rw [← rowT_inj e]
      exact tx u hu
    · have m : rowT t ∈ net.map rowT := s2.mem_iff.mp (List.mem_map_of_mem ht)
      obtain ⟨u, hu, e⟩ := List.mem_map.mp m
      rw [← rowT_inj e]
      exact kb u hu
end
end My
namespace My
open PySem L2
theorem boot_int' : bootBuiltins "int" = some (.type "int") := by decide +kernel
section
variable {P : Program} {w : World} {K : PySem.W.Frag} {mg : Str → Option Value} {base : Heap} {f f1 f2 : Addr} {fd fd1 fd2 : FuncData}
theorem scLPoints : FnScope ["_law_net_here"] ["_law_net_here"] (defScope sLPoints) := ⟨rfl, rfl, rfl, by decide +kernel, rfl, by decide +kernel, by decide +kernel⟩
theorem turns_net {as : List Addr} {net : List Tr} {Q : List V → Hp → Prop} {H1 : Hp} {σ0 : St} {g : TG} {tt : TT} {te : TE} {p : Addr} (h : Tr → Str) (hp : H1 p = some (.lst (as.map V.ref))) (pr : Paired (fun a t => H1 a = some (.tup (trV t))) as net) (ln : net.length ≤ 12)
    (hs : ∀ a t, H1 a = some (.tup (trV t)) → ∀ (C : V → Hp → Prop) (B : Hp → Prop), C (.str (h t)) H1 → g (.ref a) σ0 H1 fun σ2 H2 => Sle σ0 σ2 ∧ tt σ2 H2 fun b H3 => if b = true then te σ2 H3 C else B H3)
    (hd : Q ((net.map h).map V.str) H1) : cTurns (Itl K p) σ0 g tt te Q H1 := by
  have lA : as.length = net.length := pr.length
  refine turns_list (xs := as.map V.ref) (fun j ys H2 => H2 = H1 ∧ ys = ((net.take j).map h).map V.str) ⟨rfl, rfl⟩ (fun j ys H2 _ h => by rw [h.1]; exact SqL.of hp) ?_ ?_
  · rintro j x ys H2 hx ⟨rfl, rfl⟩
    obtain ⟨a, t, rfl, ht, ha⟩ := net_get pr hx
    have hi := at_lt ht
    have sz : (((net.take j).map h).map V.str).length < sizeLine := by
      rw [List.length_map, List.length_map, List.length_take]
      exact small1000 (by omega)
    exact hs a t ha _ _ ⟨sz, nxt (at_lt hx) ⟨rfl, by rw [take_snoc ht, List.map_append, List.map_append]; rfl⟩⟩
  · rintro ys H2 ⟨rfl, rfl⟩
    rw [List.length_map, lA, List.take_of_length_le (Nat.le_refl _)]
    exact hd
set_option maxHeartbeats 4000000 in
theorem ok_lpoints (F : Fun K "_law_points" "_law_points" sLPoints f fd) (mso : mg "sorted" = none) (mst : mg "set" = none) : FnOk P w K mg base CX0 1 f fd ["_law_net_here"] spPoints := by
  refine F.ok scLPoints (fun vs H Q E h => ?_) (fun cdv A outer s H vs Q E hr h => ?_)
  · obtain ⟨p, net, rfl, _⟩ := h
    rfl
  obtain ⟨p, net, rfl, ⟨as, hp, pr⟩, hl, q⟩ := h
  refine ⟨_, pss_one (ps_ret (pe_callB (call_sortedSet rfl) rfl mso boot_sorted' (pa_cons (pe_callTy (call_setS rfl) rfl mst boot_set' (pa_cons (pe_op op_cat
    (pe_lc (N := ["_law_net_here"]) (sc := defScope sLPoints) (N' := ["_law_tie"]) (sub := [none]) rfl rfl (CmpOk.of (by decide +kernel)) rfl (pi_list (pv 0)) (fun C s H fp => ⟨pg_name (i := 0) (by show (["_law_tie"] : List Str).Nodup; decide) rfl (Or.inl rfl), pts_nil, pe_ix (show IxR _ (rIxT K) from ix_tup) (pv 0) pe_int (fun _ _ => rfl)⟩))
    (pe_lc (N := ["_law_net_here"]) (sc := defScope sLPoints) (N' := ["_law_tie"]) (sub := [none]) rfl rfl (CmpOk.of (by decide +kernel)) rfl (pi_list (pv 0)) (fun C s H fp => ⟨pg_name (i := 0) (by show (["_law_tie"] : List Str).Nodup; decide) rfl (Or.inl rfl), pts_nil, pe_ix (show IxR _ (rIxT K) from ix_tup) (pv 0) pe_int (fun _ _ => rfl)⟩))) pa_nil)) pa_nil))), ?_⟩
  refine ⟨_, rfl, p, rfl, ⟨_, SqL.of hp⟩, ?_⟩
  refine turns_net (fun t => t.2.1) hp pr hl (fun a t ha C B c => ⟨Sle.set _ (Sle.refl _) (fun u z => by cases z), ?_⟩) ?_
  · exact iteT (B := B H) ⟨_, rfl, a, _, _, _, rfl, rfl, SqT.of ha, (by exact atI_nat (j := 1) rfl), c⟩
  intro l1 hl1
  have n1 := Ext.new hl1 (.lst ((net.map fun t => t.2.1).map V.str))
  refine ⟨_, rfl, p, rfl, ⟨_, SqL.of (n1 _ _ hp)⟩, ?_⟩
  refine turns_net (fun t => t.2.2) (n1 _ _ hp) (Paired.mapP pr fun a t z => n1 _ _ z) hl (fun a t ha C B c => ⟨Sle.set _ (Sle.refl _) (fun u z => by cases z), ?_⟩) ?_
  · exact iteT (B := B (upd H l1 (.lst ((net.map fun t => t.2.1).map V.str)))) ⟨_, rfl, a, _, _, _, rfl, rfl, SqT.of ha, (by exact atI_nat (j := 2) rfl), c⟩
  intro l2 hl2
  have n2 := n1.trans (Ext.new hl2 (.lst ((net.map fun t => t.2.2).map V.str)))
  refine ⟨l1, l2, _, _, rfl, rfl, (Ext.new hl2 _) _ _ upd_same, upd_same, ?_, fun l3 hl3 => ?_⟩
  · simp only [List.length_map]
    exact Nat.le_of_lt (small1000 (by omega))
  have n3 := n2.trans (Ext.new hl3 (.lst ((net.map fun t => t.2.1).map V.str ++ (net.map fun t => t.2.2).map V.str)))
  refine ⟨l3, (net.map fun t => t.2.1) ++ (net.map fun t => t.2.2), rfl, SqL.of (by rw [upd_same, List.map_append]), ?_, fun r1 ss hr1 nd ln mem => ?_⟩
  · simp only [List.length_append, List.length_map]
    omega
  simp only [List.length_append, List.length_map] at ln
  refine ⟨r1, ss, rfl, upd_same, by omega, fun r ss' hr' pm srt => ?_⟩
  refine q r ss' _ ((n3.trans (Ext.new hr1 _)).trans (Ext.new hr' _)) ((n3.trans (Ext.new hr1 _)).none hr') upd_same ⟨pm.nodup_iff.mpr nd, fun x => ?_⟩ (rise_of srt (pm.nodup_iff.mpr nd)) (by rw [pm.length_eq]; omega)
  rw [pm.mem_iff, mem, List.mem_append, List.mem_map, List.mem_map]
  unfold isPt
  constructor
  · rintro (⟨t, ht, rfl⟩ | ⟨t, ht, rfl⟩)
    · exact ⟨t, ht, .inl rfl⟩
    · exact ⟨t, ht, .inr rfl⟩
  · rintro ⟨t, ht, rfl | rfl⟩
    · exact .inl ⟨t, ht, rfl⟩
    · exact .inr ⟨t, ht, rfl⟩
end
end My
namespace My
theorem tb_hi {x i : Nat} (h : x < 2 ^ i) {j : Nat} (hj : i ≤ j) : x.testBit j = false :=
  Nat.testBit_lt_two_pow (Nat.lt_of_lt_of_le h (Nat.pow_le_pow_right (by decide) hj))
theorem tb_ge {x i : Nat} (h : x.testBit i = true) : 2 ^ i ≤ x := by
  rcases Nat.lt_or_ge x (2 ^ i) with z | z
  · rw [Nat.testBit_lt_two_pow z] at h; cases h
  · exact z
theorem log2_of {x i : Nat} (h1 : x.testBit i = true) (h2 : x < 2 ^ (i + 1)) : x.log2 = i := by
  have g := tb_ge h1
  have nz : x ≠ 0 := fun z => by subst z; simp at h1
  have a := (Nat.log2_lt nz).mpr h2
  have b := (Nat.le_log2 nz).mpr g
  omega
theorem tb_le {x i : Nat} (h : x.testBit i = true) : i ≤ x.log2 := by
  have nz : x ≠ 0 := fun z => by subst z; simp at h
  exact (Nat.le_log2 nz).mpr (tb_ge h)
theorem xor_one_even {n : Nat} (h : n % 2 = 0) : n ^^^ 1 = n + 1 := by
  have d : (n ^^^ 1) / 2 = n / 2 := by rw [Nat.xor_div_two]; simp
  have b : (n ^^^ 1).testBit 0 = true := by rw [Nat.testBit_xor, Nat.testBit_zero, Nat.testBit_zero]; simp [h]
  rw [Nat.testBit_zero] at b
  have b' := of_decide_eq_true b
  omega
theorem xor_one_odd {n : Nat} (h : n % 2 = 1) : n ^^^ 1 = n - 1 := by
  have d : (n ^^^ 1) / 2 = n / 2 := by rw [Nat.xor_div_two]; simp
  have b : (n ^^^ 1).testBit 0 = false := by rw [Nat.testBit_xor, Nat.testBit_zero, Nat.testBit_zero]; simp [h]
  rw [Nat.testBit_zero] at b
  have b' := of_decide_eq_false b
  omega
theorem shr_log2 {s : Nat} (hs : s ≠ 0) : s >>> s.log2 = 1 := by
  rw [Nat.shiftRight_eq_div_pow]
  have a := Nat.log2_self_le hs
  have b : s < 2 ^ (s.log2 + 1) := Nat.lt_log2_self
  rw [Nat.pow_succ] at b
  have p : 0 < 2 ^ s.log2 := Nat.pow_pos (by decide)
  exact Nat.div_eq_of_lt_le (by omega) (by omega)
theorem xor_lt_iff (x : Nat) {s : Nat} (hs : s ≠ 0) : x ^^^ s < x ↔ x.testBit s.log2 = true := by
  have e : (x ^^^ s) >>> s.log2 = (x >>> s.log2) ^^^ 1 := by rw [Nat.shiftRight_xor_distrib, shr_log2 hs]
  have tb : x.testBit s.log2 = decide ((x >>> s.log2) % 2 = 1) := by rw [Nat.testBit_eq_decide_div_mod_eq, Nat.shiftRight_eq_div_pow]
  rw [tb]
  have lt : ∀ {a b : Nat}, a >>> s.log2 < b >>> s.log2 → a < b := fun {a b} h => by
    rw [Nat.shiftRight_eq_div_pow, Nat.shiftRight_eq_div_pow] at h
    rcases Nat.lt_or_ge a b with z | z
    · exact z
    · have := Nat.div_le_div_right (c := 2 ^ s.log2) z
      omega
  rcases Nat.mod_two_eq_zero_or_one (x >>> s.log2) with h | h
  · rw [xor_one_even h] at e
    have : x < x ^^^ s := lt (by omega)
    constructor
    · intro z; omega
    · intro z; rw [h] at z; simp at z
  · rw [xor_one_odd h] at e
    have : x ^^^ s < x := lt (by rw [e]; exact Nat.sub_one_lt fun z => by rw [z] at h; cases h)
    exact ⟨fun _ => by simp [h], fun _ => this⟩
def rd1 (x s : Nat) : Nat := if x.testBit s.log2 = true then x ^^^ s else x
theorem min_rd1 (x : Nat) {s : Nat} (hs : s ≠ 0) : (if x ^^^ s < x then x ^^^ s else x) = rd1 x s := by
  unfold rd1
  by_cases h : x.testBit s.log2 = true
  · rw [if_pos h, if_pos ((xor_lt_iff x hs).mpr h)]
  · rw [if_neg h, if_neg (fun z => h ((xor_lt_iff x hs).mp z))]
theorem rd1_bit (x s i : Nat) : (rd1 x s).testBit i = (x.testBit i ^^ (x.testBit s.log2 && s.testBit i)) := by
  unfold rd1
  by_cases h : x.testBit s.log2 = true
  · rw [if_pos h, Nat.testBit_xor, h, Bool.true_and]
  · rw [if_neg h]
    have : x.testBit s.log2 = false := by simpa using h
    rw [this]; simp
def red1 (k : List Nat) (x : Nat) : Nat := k.foldl rd1 x
structure RR (k : List Nat) : Prop where
  nz : ∀ s ∈ k, s ≠ 0
  ap : k.Pairwise fun s t => t.testBit s.log2 = false ∧ s.testBit t.log2 = false
theorem RR.nil : RR [] := ⟨fun s h => (by cases h), .nil⟩
theorem RR.tl {s : Nat} {k : List Nat} (h : RR (s :: k)) : RR k := ⟨fun t ht => h.nz t (List.mem_cons_of_mem _ ht), (List.pairwise_cons.mp h.ap).2⟩
theorem RR.hd {s : Nat} {k : List Nat} (h : RR (s :: k)) : ∀ t ∈ k, t.testBit s.log2 = false ∧ s.testBit t.log2 = false := (List.pairwise_cons.mp h.ap).1
theorem RR.ne : ∀ {k : List Nat}, RR k → ∀ {s t : Nat}, s ∈ k → t ∈ k → s ≠ t → s.testBit t.log2 = false
  | [], _, _, _, hs, _, _ => by cases hs
  | a :: k, h, s, t, hs, ht, e => by
    rcases List.mem_cons.mp hs with rfl | zs
    · rcases List.mem_cons.mp ht with rfl | zt
      · exact absurd rfl e
      · exact (h.hd t zt).2
    · rcases List.mem_cons.mp ht with rfl | zt
      · exact (h.hd s zs).1
      · exact RR.ne h.tl zs zt e
theorem RR.self {k : List Nat} (h : RR k) {s : Nat} (hs : s ∈ k) : s.testBit s.log2 = true := Nat.testBit_log2 (h.nz s hs)
theorem RR.nd {k : List Nat} (h : RR k) : k.Nodup := by
  have : ∀ {k : List Nat}, RR k → k.Nodup := fun {k} h => by
    induction k with
    | nil => exact List.nodup_nil
    | cons s k ih =>
      refine List.nodup_cons.mpr ⟨fun z => ?_, ih h.tl⟩
      have := (h.hd s z).1
      rw [h.self List.mem_cons_self] at this; cases this
  exact this h
theorem red1_keep : ∀ {k : List Nat} {x i : Nat}, RR k → (∀ s ∈ k, x.testBit s.log2 = true → s.testBit i = false) → (red1 k x).testBit i = x.testBit i
  | [], _, _, _, _ => rfl
  | s :: k, x, i, h, hx => by
    show (red1 k (rd1 x s)).testBit i = _
    have b1 : (rd1 x s).testBit i = x.testBit i := by
      rw [rd1_bit]
      cases q : x.testBit s.log2 with
      | false => simp
      | true => rw [hx s List.mem_cons_self q]; simp
    rw [red1_keep h.tl fun t ht hb => ?_, b1]
    refine hx t (List.mem_cons_of_mem _ ht) ?_
    rw [rd1_bit, (h.hd t ht).2] at hb
    simpa using hb
theorem red1_lead : ∀ {k : List Nat} {x : Nat}, RR k → ∀ s ∈ k, (red1 k x).testBit s.log2 = false
  | [], _, _, _, hs => by cases hs
  | a :: k, x, h, s, hs => by
    show (red1 k (rd1 x a)).testBit s.log2 = false
    rcases List.mem_cons.mp hs with rfl | z
    · rw [red1_keep h.tl fun t ht _ => (h.hd t ht).1, rd1_bit, h.self List.mem_cons_self]
      cases x.testBit s.log2 <;> rfl
    · exact red1_lead h.tl s z
inductive Spn (l : List Nat) : Nat → Prop
  | zero : Spn l 0
  | add {x y : Nat} : x ∈ l → Spn l y → Spn l (x ^^^ y)
theorem Spn.mem {l : List Nat} {x : Nat} (h : x ∈ l) : Spn l x := by
  have := Spn.add h Spn.zero
  rwa [Nat.xor_zero] at this
theorem Spn.xor {l : List Nat} {x y : Nat} (h : Spn l x) (h' : Spn l y) : Spn l (x ^^^ y) := by
  induction h with
  | zero => rwa [Nat.zero_xor]
  | add m _ ih => rw [Nat.xor_assoc]; exact .add m ih
theorem Spn.mono {l l' : List Nat} (h : ∀ x ∈ l, Spn l' x) {y : Nat} (hy : Spn l y) : Spn l' y := by
  induction hy with
  | zero => exact .zero
  | add m _ ih => exact (h _ m).xor ih
theorem Spn.lt {l : List Nat} {m : Nat} (h : ∀ x ∈ l, x < 2 ^ m) {y : Nat} (hy : Spn l y) : y < 2 ^ m := by
  induction hy with
  | zero => exact Nat.pow_pos (by decide)
  | add hm _ ih => exact Nat.xor_lt_two_pow (h _ hm) ih
theorem xor_back (x y : Nat) : (x ^^^ y) ^^^ y = x := by rw [Nat.xor_assoc, Nat.xor_self, Nat.xor_zero]
theorem rd1_spn {k : List Nat} {x s : Nat} (hs : s ∈ k) : Spn k (rd1 x s ^^^ x) := by
  unfold rd1
  split
  · rw [Nat.xor_comm x s, xor_back]; exact .mem hs
  · rw [Nat.xor_self]; exact .zero
theorem red1_spn (k : List Nat) : ∀ (k' : List Nat), (∀ s ∈ k', s ∈ k) → ∀ x, Spn k (red1 k' x ^^^ x)
  | [], _, x => by show Spn k (x ^^^ x); rw [Nat.xor_self]; exact .zero
  | s :: k', h, x => by
    have a := red1_spn k k' (fun t ht => h t (List.mem_cons_of_mem _ ht)) (rd1 x s)
    have b := rd1_spn (x := x) (h s List.mem_cons_self)
    have c := a.xor b
    rw [← Nat.xor_assoc, xor_back] at c
    exact c
def redS (k : List Nat) (x : Nat) : List Nat := if red1 k x = 0 then k else k.map (fun s => rd1 s (red1 k x)) ++ [red1 k x]
def red (xs : List Nat) : List Nat := xs.foldl redS []
theorem red_snoc (xs : List Nat) (x : Nat) : red (xs ++ [x]) = redS (red xs) x := by unfold red; rw [List.foldl_append]; rfl
theorem rd1_log2 {s f : Nat} (hs : s ≠ 0) (hf : f ≠ 0) (h : f.testBit s.log2 = false) : (rd1 s f).log2 = s.log2 ∧ rd1 s f ≠ 0 := by
  have ss := Nat.testBit_log2 hs
  have bit : (rd1 s f).testBit s.log2 = true := by rw [rd1_bit, ss, h]; simp
  refine ⟨log2_of bit ?_, fun z => by rw [z] at bit; simp at bit⟩
  unfold rd1
  split
  · rename_i q
    have le := tb_le q
    exact Nat.xor_lt_two_pow Nat.lt_log2_self (Nat.lt_of_lt_of_le Nat.lt_log2_self (Nat.pow_le_pow_right (by decide) (by omega)))
  · exact Nat.lt_log2_self
theorem RR.step {k : List Nat} (h : RR k) (x : Nat) : RR (redS k x) := by
  unfold redS
  by_cases z : red1 k x = 0
  · rw [if_pos z]; exact h
  rw [if_neg z]
  have ld := fun s hs => red1_lead (x := x) h s hs
  generalize red1 k x = f at z ld
  have l2 : ∀ s ∈ k, (rd1 s f).log2 = s.log2 ∧ rd1 s f ≠ 0 := fun s hs => rd1_log2 (h.nz s hs) z (ld s hs)
  have ff := Nat.testBit_log2 z
  refine ⟨fun s hs => ?_, ?_⟩
  · rcases List.mem_append.mp hs with w | w
    · obtain ⟨u, hu, rfl⟩ := List.mem_map.mp w
      exact (l2 u hu).2
    · rw [List.mem_singleton] at w; rw [w]; exact z
  · rw [List.pairwise_append]
    refine ⟨?_, List.pairwise_singleton _ _, fun a ha b hb => ?_⟩
    · rw [List.pairwise_map]
      refine List.Pairwise.imp_of_mem (fun {a b} ha hb r => ?_) h.ap
      rw [(l2 a ha).1, (l2 b hb).1, rd1_bit, rd1_bit, r.1, r.2, ld a ha, ld b hb]
      simp
    · rw [List.mem_singleton] at hb
      obtain ⟨u, hu, rfl⟩ := List.mem_map.mp ha
      subst hb
      refine ⟨by rw [(l2 u hu).1]; exact ld u hu, ?_⟩
      rw [rd1_bit, ff]
      cases u.testBit b.log2 <;> rfl
theorem redS_spn {k : List Nat} (x y : Nat) : Spn (redS k x) y ↔ Spn (k ++ [x]) y := by
  have rx := red1_spn k k (fun _ h => h) x
  unfold redS
  have inl : ∀ {z}, Spn k z → Spn (k ++ [x]) z := fun {z} hz => hz.mono fun u hu => .mem (List.mem_append_left _ hu)
  have xm : Spn (k ++ [x]) x := .mem (by simp)
  by_cases z : red1 k x = 0
  · rw [if_pos z]
    rw [z, Nat.zero_xor] at rx
    refine ⟨inl, fun h => h.mono fun u hu => ?_⟩
    rcases List.mem_append.mp hu with w | w
    · exact .mem w
    · rw [List.mem_singleton] at w; rw [w]; exact rx
  rw [if_neg z]
  have fm : Spn (k ++ [x]) (red1 k x) := by
    have := (inl rx).xor xm
    rwa [xor_back] at this
  revert rx fm
  generalize red1 k x = f
  intro rx fm
  have ff : Spn (k.map (fun s => rd1 s f) ++ [f]) f := .mem (by simp)
  have sk : ∀ s ∈ k, Spn (k.map (fun s => rd1 s f) ++ [f]) s := fun s hs => by
    have a : Spn (k.map (fun s => rd1 s f) ++ [f]) (rd1 s f) := .mem (List.mem_append_left _ (List.mem_map_of_mem (f := fun s => rd1 s f) hs))
    by_cases q : s.testBit f.log2 = true
    · have b := a.xor ff
      rw [show rd1 s f = s ^^^ f from if_pos q, xor_back] at b
      exact b
    · rw [show rd1 s f = s from if_neg q] at a
      exact a
  constructor
  · intro h
    refine h.mono fun u hu => ?_
    rcases List.mem_append.mp hu with w | w
    · obtain ⟨s, hs, rfl⟩ := List.mem_map.mp w
      unfold rd1
      split
      · exact (inl (.mem hs)).xor fm
      · exact inl (.mem hs)
    · rw [List.mem_singleton] at w; rw [w]; exact fm
  · intro h
    refine h.mono fun u hu => ?_
    rcases List.mem_append.mp hu with w | w
    · exact sk u w
    · rw [List.mem_singleton] at w
      subst w
      have b := ff.xor (rx.mono sk)
      rw [← Nat.xor_assoc, Nat.xor_self, Nat.zero_xor] at b
      exact b
theorem snocN {P : List Nat → Prop} (h0 : P []) (hs : ∀ l t, P l → P (l ++ [t])) (l : List Nat) : P l := by
  have : ∀ r : List Nat, P r.reverse := fun r => by
    induction r with
    | nil => exact h0
    | cons a r ih => rw [List.reverse_cons]; exact hs _ _ ih
  have q := this l.reverse
  rwa [List.reverse_reverse] at q
theorem red_rr (xs : List Nat) : RR (red xs) := snocN (P := fun xs => RR (red xs)) RR.nil (fun l t ih => by rw [red_snoc]; exact ih.step t) xs
theorem red_spn (xs : List Nat) : ∀ y, Spn (red xs) y ↔ Spn xs y := by
  refine snocN (P := fun xs => ∀ y, Spn (red xs) y ↔ Spn xs y) (fun y => Iff.rfl) (fun l t ih y => ?_) xs
  rw [red_snoc, redS_spn]
  constructor
  · exact fun h => h.mono fun u hu => by
      rcases List.mem_append.mp hu with w | w
      · exact ((ih u).mp (.mem w)).mono fun v hv => .mem (List.mem_append_left _ hv)
      · exact .mem (List.mem_append_right _ w)
  · exact fun h => h.mono fun u hu => by
      rcases List.mem_append.mp hu with w | w
      · exact ((ih u).mpr (.mem w)).mono fun v hv => .mem (List.mem_append_left _ hv)
      · exact .mem (List.mem_append_right _ w)
theorem red_lt {xs : List Nat} {m : Nat} (h : ∀ x ∈ xs, x < 2 ^ m) : ∀ s ∈ red xs, s < 2 ^ m := fun s hs => Spn.lt h ((red_spn xs s).mp (.mem hs))
def Fsh (xs : List Nat) : Prop := ∀ i x, xs[i]? = some x → ∃ j, x.testBit j = true ∧ ∀ y ∈ xs.take i, y.testBit j = false
theorem spn_bit {l : List Nat} {j : Nat} (h : ∀ x ∈ l, x.testBit j = false) {y : Nat} (hy : Spn l y) : y.testBit j = false := by
  induction hy with
  | zero => simp
  | add m _ ih => rw [Nat.testBit_xor, h _ m, ih]; rfl
end My
namespace My
def xsum : Nat → (Nat → Bool) → Bool
  | 0, _ => false
  | m + 1, f => xsum m f ^^ f m
theorem xsum_congr {f g : Nat → Bool} : ∀ {m : Nat}, (∀ j, j < m → f j = g j) → xsum m f = xsum m g
  | 0, _ => rfl
  | m + 1, h => by unfold xsum; rw [xsum_congr fun j hj => h j (by omega), h m (by omega)]
theorem xsum_xor (f g : Nat → Bool) : ∀ m : Nat, xsum m (fun j => f j ^^ g j) = (xsum m f ^^ xsum m g)
  | 0 => rfl
  | m + 1 => by
    unfold xsum
    rw [xsum_xor f g m]
    show ((xsum m f ^^ xsum m g) ^^ (f m ^^ g m)) = _
    cases xsum m f <;> cases xsum m g <;> cases f m <;> cases g m <;> rfl
theorem xsum_false : ∀ m : Nat, xsum m (fun _ => false) = false
  | 0 => rfl
  | m + 1 => by unfold xsum; rw [xsum_false m]; rfl
theorem xsum_one {f : Nat → Bool} {l : Nat} : ∀ {m : Nat}, (∀ j, j < m → j ≠ l → f j = false) → xsum m f = (decide (l < m) && f l)
  | 0, _ => by simp [xsum]
  | m + 1, h => by
    unfold xsum
    rw [xsum_one (m := m) fun j hj => h j (by omega)]
    by_cases e : l = m
    · subst e; simp
    · have n := h m (by omega) (fun z => e z.symm)
      rw [n]
      have : decide (l < m) = decide (l < m + 1) := by
        by_cases q : l < m
        · rw [decide_eq_true q, decide_eq_true (by omega)]
        · rw [decide_eq_false q, decide_eq_false (by omega)]
      rw [this]; simp
theorem xsum_head (f : Nat → Bool) : ∀ m : Nat, xsum (m + 1) f = (f 0 ^^ xsum m fun j => f (j + 1))
  | 0 => by simp [xsum]
  | m + 1 => by
    rw [xsum, xsum_head f m, xsum]
    cases f 0 <;> cases xsum m (fun j => f (j + 1)) <;> cases f (m + 1) <;> rfl
theorem xsum_rev (f : Nat → Bool) : ∀ m : Nat, xsum m (fun j => f (m - 1 - j)) = xsum m f
  | 0 => rfl
  | m + 1 => by
    rw [xsum_head]
    have : xsum m (fun j => f (m + 1 - 1 - (j + 1))) = xsum m fun j => f (m - 1 - j) := xsum_congr fun j hj => by
      rw [show m + 1 - 1 - (j + 1) = m - 1 - j by omega]
    rw [this, xsum_rev f m]
    show (f m ^^ xsum m f) = (xsum m f ^^ f m)
    cases f m <;> cases xsum m f <;> rfl
def dot (m x y : Nat) : Bool := xsum m fun j => x.testBit j && y.testBit j
theorem dot_left (m x x' y : Nat) : dot m (x ^^^ x') y = (dot m x y ^^ dot m x' y) := by
  unfold dot
  rw [← xsum_xor]
  refine xsum_congr fun j _ => ?_
  rw [Nat.testBit_xor]
  cases x.testBit j <;> cases x'.testBit j <;> cases y.testBit j <;> rfl
theorem dot_right (m x y y' : Nat) : dot m x (y ^^^ y') = (dot m x y ^^ dot m x y') := by
  unfold dot
  rw [← xsum_xor]
  refine xsum_congr fun j _ => ?_
  rw [Nat.testBit_xor]
  cases x.testBit j <;> cases y.testBit j <;> cases y'.testBit j <;> rfl
theorem dot_zero (m y : Nat) : dot m 0 y = false := by
  unfold dot
  rw [xsum_congr (g := fun _ => false) fun j _ => by simp, xsum_false]
theorem dot_zero' (m y : Nat) : dot m y 0 = false := by
  unfold dot
  rw [xsum_congr (g := fun _ => false) fun j _ => by simp, xsum_false]
theorem dot_pow {m p y : Nat} (hp : p < m) : dot m (2 ^ p) y = y.testBit p := by
  unfold dot
  rw [xsum_one (l := p) fun j _ ne => by rw [Nat.testBit_two_pow, decide_eq_false (fun z => ne z.symm)]; rfl]
  rw [Nat.testBit_two_pow]
  simp [hp]
theorem dot_only {m x s l : Nat} (hl : l < m) (hs : s.testBit l = true) (h : ∀ j, j < m → j ≠ l → (x.testBit j && s.testBit j) = false) : dot m x s = x.testBit l := by
  unfold dot
  rw [xsum_one (l := l) h, decide_eq_true hl, hs]
  simp
theorem spn_dot {l : List Nat} {m y : Nat} (h : ∀ s ∈ l, dot m y s = false) {z : Nat} (hz : Spn l z) : dot m y z = false := by
  induction hz with
  | zero => exact dot_zero' m y
  | add hm _ ih => rw [dot_right, h _ hm, ih]; rfl
theorem spn_dotL {l : List Nat} {m s : Nat} (h : ∀ x ∈ l, dot m x s = false) {z : Nat} (hz : Spn l z) : dot m z s = false := by
  induction hz with
  | zero => exact dot_zero m s
  | add hm _ ih => rw [dot_left, h _ hm, ih]; rfl
theorem add_pow : ∀ (l x : Nat), x.testBit l = false → 2 ^ l + x = 2 ^ l ^^^ x
  | 0, x, h => by
    have e : x % 2 = 0 := by
      rw [Nat.testBit_zero] at h
      have := of_decide_eq_false h
      omega
    show 1 + x = 1 ^^^ x
    rw [Nat.xor_comm, xor_one_even e, Nat.add_comm]
  | l + 1, x, h => by
    rw [Nat.testBit_succ] at h
    have ih := add_pow l (x / 2) h
    have d : (2 ^ (l + 1) ^^^ x) / 2 = 2 ^ l + x / 2 := by
      rw [Nat.xor_div_two, ih, Nat.pow_succ, Nat.mul_div_cancel _ (by decide)]
    have b : (2 ^ (l + 1) ^^^ x).testBit 0 = x.testBit 0 := by rw [Nat.testBit_xor, Nat.testBit_two_pow]; simp
    rw [Nat.testBit_zero, Nat.testBit_zero] at b
    have b' : (2 ^ (l + 1) ^^^ x) % 2 = 1 ↔ x % 2 = 1 := by simpa using b
    have p := Nat.pow_succ (n := 2) (m := l)
    rcases Nat.mod_two_eq_zero_or_one x with q | q
    · have : ¬ (2 ^ (l + 1) ^^^ x) % 2 = 1 := fun z => by have := b'.mp z; omega
      omega
    · have := b'.mpr q
      omega
theorem sum_pow : ∀ (L : List Nat), L.Nodup → ∀ j, ((L.map fun l => 2 ^ l).sum).testBit j = decide (j ∈ L)
  | [], _, j => by simp
  | l :: L, nd, j => by
    obtain ⟨n1, n2⟩ := List.nodup_cons.mp nd
    have ih := sum_pow L n2
    rw [List.map_cons, List.sum_cons, add_pow l _ (by rw [ih l, decide_eq_false n1]), Nat.testBit_xor, ih j, Nat.testBit_two_pow]
    by_cases e : l = j
    · subst e; simp [n1]
    · have e' : ¬ j = l := fun z => e z.symm
      simp [e, e']
def crM (S : List Nat) (p : Nat) : Nat := 2 ^ p + ((S.filter fun s : Nat => s.testBit p).map fun s : Nat => 2 ^ s.log2).sum
def isLd (S : List Nat) (p : Nat) : Prop := ∃ s ∈ S, s.log2 = p
instance (S : List Nat) : DecidablePred (isLd S) := fun p => inferInstanceAs (Decidable (∃ s ∈ S, s.log2 = p))
theorem ld_nd : ∀ {S : List Nat}, RR S → (S.map Nat.log2).Nodup
  | [], _ => List.nodup_nil
  | s :: S, h => by
    rw [List.map_cons]
    refine List.nodup_cons.mpr ⟨fun z => ?_, ld_nd h.tl⟩
    obtain ⟨t, ht, e⟩ := List.mem_map.mp z
    have a := (h.hd t ht).1
    rw [← e, h.self (List.mem_cons_of_mem _ ht)] at a
    cases a
theorem lead_bit {S : List Nat} (h : RR S) (p j : Nat) : (((S.filter fun s : Nat => s.testBit p).map fun s : Nat => 2 ^ s.log2).sum).testBit j = decide (∃ s ∈ S, s.testBit p = true ∧ s.log2 = j) := by
  have e : ((S.filter fun s : Nat => s.testBit p).map fun s : Nat => 2 ^ s.log2) = ((S.filter fun s : Nat => s.testBit p).map Nat.log2).map fun l => 2 ^ l := by rw [List.map_map]; rfl
  rw [e, sum_pow _ ((ld_nd h).sublist (List.filter_sublist.map _))]
  refine decide_eq_decide.mpr ?_
  rw [List.mem_map]
  constructor
  · rintro ⟨s, hs, rfl⟩
    exact ⟨s, (List.mem_filter.mp hs).1, (List.mem_filter.mp hs).2, rfl⟩
  · rintro ⟨s, hs, h1, rfl⟩
    exact ⟨s, List.mem_filter.mpr ⟨hs, h1⟩, rfl⟩
theorem leads_bit {S : List Nat} (h : RR S) (j : Nat) : ((S.map fun s : Nat => 2 ^ s.log2).sum).testBit j = decide (isLd S j) := by
  have e : (S.map fun s : Nat => 2 ^ s.log2) = (S.map Nat.log2).map fun l => 2 ^ l := by rw [List.map_map]; rfl
  rw [e, sum_pow _ (ld_nd h)]
  refine decide_eq_decide.mpr ?_
  rw [List.mem_map]
  exact Iff.rfl
theorem crM_bit {S : List Nat} (h : RR S) {p : Nat} (np : ¬ isLd S p) (j : Nat) : (crM S p).testBit j = (decide (p = j) ^^ decide (∃ s ∈ S, s.testBit p = true ∧ s.log2 = j)) := by
  unfold crM
  rw [add_pow _ _ (by rw [lead_bit h]; exact decide_eq_false fun ⟨s, hs, _, e⟩ => np ⟨s, hs, e⟩), Nat.testBit_xor, Nat.testBit_two_pow, lead_bit h]
theorem crM_lt {S : List Nat} {m : Nat} (h : RR S) (hm : ∀ s ∈ S, s < 2 ^ m) {p : Nat} (hp : p < m) (np : ¬ isLd S p) : crM S p < 2 ^ m := by
  refine Nat.lt_pow_two_of_testBit _ fun i hi => ?_
  rw [crM_bit h np, decide_eq_false (by omega : ¬ p = i), decide_eq_false]
  · rfl
  · rintro ⟨s, hs, _, e⟩
    have := h.self hs
    rw [e, tb_hi (hm s hs) hi] at this
    cases this
theorem crM_dot {S : List Nat} {m : Nat} (h : RR S) (hm : ∀ s ∈ S, s < 2 ^ m) {p : Nat} (hp : p < m) (np : ¬ isLd S p) : ∀ s ∈ S, dot m (crM S p) s = false := fun s hs => by
  have e : crM S p = 2 ^ p ^^^ ((S.filter fun s : Nat => s.testBit p).map fun s : Nat => 2 ^ s.log2).sum := by
    unfold crM
    exact add_pow _ _ (by rw [lead_bit h]; exact decide_eq_false fun ⟨s, hs, _, e⟩ => np ⟨s, hs, e⟩)
  have ls : s.log2 < m := by
    have := h.self hs
    rcases Nat.lt_or_ge s.log2 m with z | z
    · exact z
    · rw [tb_hi (hm s hs) z] at this; cases this
  rw [e, dot_left, dot_pow hp, dot_only (l := s.log2) ls (h.self hs) fun j hj ne => ?_, lead_bit h]
  · have : decide (∃ t ∈ S, t.testBit p = true ∧ t.log2 = s.log2) = s.testBit p := by
      cases q : s.testBit p with
      | true => exact decide_eq_true ⟨s, hs, q, rfl⟩
      | false =>
        refine decide_eq_false ?_
        rintro ⟨t, ht, h1, h2⟩
        by_cases z : t = s
        · subst z; rw [q] at h1; cases h1
        · have a := h.ne hs ht (fun w => z w.symm)
          rw [h2, h.self hs] at a; cases a
    rw [this]
    cases s.testBit p <;> rfl
  · rw [lead_bit h]
    by_cases q : ∃ t ∈ S, t.testBit p = true ∧ t.log2 = j
    · obtain ⟨t, ht, h1, h2⟩ := q
      have z : s ≠ t := fun w => ne (by rw [w, h2])
      have a := h.ne hs ht z
      rw [h2] at a
      rw [a]; simp
    · rw [decide_eq_false q]; rfl
def crAll (S : List Nat) (m : Nat) : List Nat := ((List.range m).filter fun p => !decide (isLd S p)).map (crM S)
def xl (L : List Nat) : Nat := L.foldr (· ^^^ ·) 0
theorem xl_spn {l L : List Nat} (h : ∀ x ∈ L, x ∈ l) : Spn l (xl L) := by
  induction L with
  | nil => exact .zero
  | cons a L ih => exact .add (h a List.mem_cons_self) (ih fun x hx => h x (List.mem_cons_of_mem _ hx))
theorem xl_cr {S : List Nat} (h : RR S) : ∀ (L : List Nat), L.Nodup → (∀ p ∈ L, ¬ isLd S p) → ∀ j, ¬ isLd S j → (xl (L.map (crM S))).testBit j = decide (j ∈ L)
  | [], _, _, j, _ => by simp [xl]
  | p :: L, nd, np, j, nj => by
    obtain ⟨n1, n2⟩ := List.nodup_cons.mp nd
    show (crM S p ^^^ xl (L.map (crM S))).testBit j = _
    rw [Nat.testBit_xor, xl_cr h L n2 (fun q hq => np q (List.mem_cons_of_mem _ hq)) j nj, crM_bit h (np p List.mem_cons_self), decide_eq_false (p := ∃ s ∈ S, s.testBit p = true ∧ s.log2 = j) fun ⟨s, hs, _, e⟩ => nj ⟨s, hs, e⟩]
    by_cases e : p = j
    · subst e; simp [n1]
    · have e' : ¬ j = p := fun z => e z.symm
      simp [e, e']
theorem cr_spn {S : List Nat} {m : Nat} (h : RR S) (hm : ∀ s ∈ S, s < 2 ^ m) (y : Nat) : Spn (crAll S m) y ↔ y < 2 ^ m ∧ ∀ s ∈ S, dot m y s = false := by
  have mem : ∀ x, x ∈ crAll S m ↔ ∃ p, p < m ∧ ¬ isLd S p ∧ crM S p = x := fun x => by
    unfold crAll
    rw [List.mem_map]
    constructor
    · rintro ⟨p, hp, rfl⟩
      obtain ⟨h1, h2⟩ := List.mem_filter.mp hp
      exact ⟨p, List.mem_range.mp h1, by simpa using h2, rfl⟩
    · rintro ⟨p, h1, h2, rfl⟩
      exact ⟨p, List.mem_filter.mpr ⟨List.mem_range.mpr h1, by simpa using h2⟩, rfl⟩
  constructor
  · intro hy
    refine ⟨Spn.lt (fun x hx => ?_) hy, fun s hs => spn_dotL (fun x hx => ?_) hy⟩
    · obtain ⟨p, h1, h2, rfl⟩ := (mem x).mp hx
      exact crM_lt h hm h1 h2
    · obtain ⟨p, h1, h2, rfl⟩ := (mem x).mp hx
      exact crM_dot h hm h1 h2 s hs
  · rintro ⟨hy, hd⟩
    have hL : ∀ p ∈ (List.range m).filter (fun p => !decide (isLd S p) && y.testBit p), p < m ∧ ¬ isLd S p ∧ y.testBit p = true := fun p hp => by
      obtain ⟨h1, h2⟩ := List.mem_filter.mp hp
      rw [Bool.and_eq_true] at h2
      exact ⟨List.mem_range.mp h1, by simpa using h2.1, h2.2⟩
    have nd : ((List.range m).filter (fun p => !decide (isLd S p) && y.testBit p)).Nodup := List.nodup_range.sublist List.filter_sublist
    have cov : ∀ j, j < m → ¬ isLd S j → (j ∈ (List.range m).filter (fun p => !decide (isLd S p) && y.testBit p) ↔ y.testBit j = true) := fun j hj nj => by
      rw [List.mem_filter, List.mem_range]
      simp [hj, nj]
    generalize (List.range m).filter (fun p => !decide (isLd S p) && y.testBit p) = L at hL nd cov
    have sp : Spn (crAll S m) (xl (L.map (crM S))) := xl_spn fun x hx => by
      obtain ⟨p, hp, rfl⟩ := List.mem_map.mp hx
      exact (mem _).mpr ⟨p, (hL p hp).1, (hL p hp).2.1, rfl⟩
    have lt1 : xl (L.map (crM S)) < 2 ^ m := Spn.lt (fun x hx => by
      obtain ⟨p, h1, h2, rfl⟩ := (mem x).mp hx
      exact crM_lt h hm h1 h2) sp
    have dz : ∀ s ∈ S, dot m (y ^^^ xl (L.map (crM S))) s = false := fun s hs => by
      rw [dot_left, hd s hs, spn_dotL (fun x hx => ?_) sp]
      · rfl
      · obtain ⟨p, h1, h2, rfl⟩ := (mem x).mp hx
        exact crM_dot h hm h1 h2 s hs
    have non : ∀ j, ¬ isLd S j → (y ^^^ xl (L.map (crM S))).testBit j = false := fun j nj => by
      rw [Nat.testBit_xor, xl_cr h L nd (fun p hp => (hL p hp).2.1) j nj]
      by_cases hj : j < m
      · cases q : y.testBit j with
        | true => rw [decide_eq_true ((cov j hj nj).mpr q)]; rfl
        | false => rw [decide_eq_false fun z => by rw [(cov j hj nj).mp z] at q; cases q]; rfl
      · rw [tb_hi hy (by omega), decide_eq_false fun z => hj (hL j z).1]; rfl
    have z0 : y ^^^ xl (L.map (crM S)) = 0 := by
      refine Nat.eq_of_testBit_eq fun j => ?_
      rw [Nat.zero_testBit]
      by_cases q : isLd S j
      · obtain ⟨s, hs, rfl⟩ := q
        have ls : s.log2 < m := by
          have := h.self hs
          rcases Nat.lt_or_ge s.log2 m with z | z
          · exact z
          · rw [tb_hi (hm s hs) z] at this; cases this
        rw [← dot_only (m := m) (s := s) ls (h.self hs) fun j hj ne => ?_]
        · exact dz s hs
        · by_cases q : isLd S j
          · obtain ⟨t, ht, rfl⟩ := q
            rw [h.ne hs ht (fun w => ne (by rw [w]))]; simp
          · rw [non j q]; rfl
      · exact non j q
    have : y = xl (L.map (crM S)) := by
      have q := xor_back y (xl (L.map (crM S)))
      rw [z0, Nat.zero_xor] at q
      exact q.symm
    rw [this]; exact sp
end My
namespace My
open PySem
theorem add_xor : ∀ (n a b : Nat), a < n → a + b = (a ^^^ b) + 2 * (a &&& b)
  | 0, _, _, h => absurd h (Nat.not_lt_zero _)
  | n + 1, a, b, h => by
    by_cases a0 : a = 0
    · subst a0; simp
    have ih := add_xor n (a / 2) (b / 2) (by omega)
    have d1 : (a ^^^ b) / 2 = a / 2 ^^^ b / 2 := Nat.xor_div_two
    have d2 : (a &&& b) / 2 = a / 2 &&& b / 2 := Nat.and_div_two
    have b1 : (a ^^^ b).testBit 0 = (a.testBit 0 ^^ b.testBit 0) := Nat.testBit_xor ..
    have b2 : (a &&& b).testBit 0 = (a.testBit 0 && b.testBit 0) := Nat.testBit_and ..
    rw [Nat.testBit_zero, Nat.testBit_zero, Nat.testBit_zero] at b1 b2
    rw [← d1, ← d2] at ih
    generalize a ^^^ b = X at b1 ih ⊢
    generalize a &&& b = Y at b2 ih ⊢
    rcases Nat.mod_two_eq_zero_or_one a with p | p <;> rcases Nat.mod_two_eq_zero_or_one b with q | q <;> rw [p, q] at b1 b2 <;> simp at b1 b2 <;> omega
theorem band_nat (a b : Nat) : Builtin.bitAnd (a : Int) (b : Int) = ((a &&& b : Nat) : Int) := by
  unfold Builtin.bitAnd
  rw [decide_eq_true (Int.natCast_nonneg a), decide_eq_true (Int.natCast_nonneg b)]
  simp
theorem bxor_nat (a b : Nat) : Builtin.bitXor (a : Int) (b : Int) = ((a ^^^ b : Nat) : Int) := by
  have e := add_xor (a + 1) a b (Nat.lt_succ_self a)
  have h : Builtin.bitXor (a : Int) (b : Int) = (a : Int) + b - 2 * Builtin.bitAnd a b := by
    have x : ∀ x y : Int, Builtin.bitNot (Builtin.bitNot x) = x := fun x y => by unfold Builtin.bitNot; omega
    unfold Builtin.bitXor Builtin.bitOr
    have na : ¬ (0 : Int) ≤ Builtin.bitNot (a : Int) := by unfold Builtin.bitNot; omega
    have nb : ¬ (0 : Int) ≤ Builtin.bitNot (b : Int) := by unfold Builtin.bitNot; omega
    have o : Builtin.bitAnd (Builtin.bitNot (a : Int)) (Builtin.bitNot (b : Int)) = Builtin.bitNot ((a ||| b : Nat) : Int) := by
      unfold Builtin.bitAnd
      rw [decide_eq_false na, decide_eq_false nb]
      show Builtin.bitNot _ = _
      rw [x a 0, x b 0]; simp
    rw [o, x _ 0, band_nat]
    have e2 : (a ||| b) + (a &&& b) = a + b := by
      have := add_or (a + 1) a b (Nat.lt_succ_self a)
      omega
    omega
  rw [h, band_nat]
  omega
where
  add_or : ∀ (n a b : Nat), a < n → (a ||| b) + (a &&& b) = a + b
  | 0, _, _, h => absurd h (Nat.not_lt_zero _)
  | n + 1, a, b, h => by
    by_cases a0 : a = 0
    · subst a0; simp
    have ih := add_or n (a / 2) (b / 2) (by omega)
    have d1 : (a ||| b) / 2 = a / 2 ||| b / 2 := Nat.or_div_two
    have d2 : (a &&& b) / 2 = a / 2 &&& b / 2 := Nat.and_div_two
    have b1 : (a ||| b).testBit 0 = (a.testBit 0 || b.testBit 0) := Nat.testBit_or ..
    have b2 : (a &&& b).testBit 0 = (a.testBit 0 && b.testBit 0) := Nat.testBit_and ..
    rw [Nat.testBit_zero, Nat.testBit_zero, Nat.testBit_zero] at b1 b2
    rw [← d1, ← d2] at ih
    generalize a ||| b = X at b1 ih ⊢
    generalize a &&& b = Y at b2 ih ⊢
    rcases Nat.mod_two_eq_zero_or_one a with p | p <;> rcases Nat.mod_two_eq_zero_or_one b with q | q <;> rw [p, q] at b1 b2 <;> simp at b1 b2 <;> omega
theorem low_ex : ∀ (n f : Nat), f < n → f ≠ 0 → ∃ i, f.testBit i = true ∧ ∀ j, j < i → f.testBit j = false
  | 0, _, h, _ => absurd h (Nat.not_lt_zero _)
  | n + 1, f, h, nz => by
    rcases Nat.mod_two_eq_zero_or_one f with p | p
    · obtain ⟨i, h1, h2⟩ := low_ex n (f / 2) (by omega) (by omega)
      refine ⟨i + 1, by rw [Nat.testBit_succ]; exact h1, fun j hj => ?_⟩
      cases j with
      | zero => rw [Nat.testBit_zero, p]; rfl
      | succ j => rw [Nat.testBit_succ]; exact h2 j (by omega)
    · exact ⟨0, by rw [Nat.testBit_zero, p]; rfl, fun j hj => absurd hj (Nat.not_lt_zero _)⟩
noncomputable def lo (f : Nat) : Nat := Classical.epsilon fun i => f.testBit i = true ∧ ∀ j, j < i → f.testBit j = false
theorem lo_spec {f : Nat} (h : f ≠ 0) : f.testBit (lo f) = true ∧ ∀ j, j < lo f → f.testBit j = false :=
  Classical.epsilon_spec (low_ex (f + 1) f (Nat.lt_succ_self _) h)
theorem and_pow (x p : Nat) : x &&& 2 ^ p ≠ 0 ↔ x.testBit p = true := by
  constructor
  · intro ne
    cases q : x.testBit p with
    | true => rfl
    | false =>
      refine absurd (Nat.eq_of_testBit_eq fun j => ?_) ne
      rw [Nat.testBit_and, Nat.testBit_two_pow, Nat.zero_testBit]
      by_cases e : p = j
      · subst e; rw [q]; rfl
      · simp [e]
  · intro q z
    have := congrArg (fun x : Nat => x.testBit p) z
    simp [Nat.testBit_and, q] at this
def rv (m x : Nat) : Nat := ((((List.range m).filter fun i => x.testBit i).map fun i => m - 1 - i).map fun l => 2 ^ l).sum
theorem rv_bit (m x j : Nat) : (rv m x).testBit j = (decide (j < m) && x.testBit (m - 1 - j)) := by
  have nd : (((List.range m).filter fun i => x.testBit i).map fun i => m - 1 - i).Nodup := by
    have h : ((List.range m).filter fun i => x.testBit i).Pairwise fun a b => m - 1 - a ≠ m - 1 - b := by
      have : (List.range m).Pairwise fun a b => a ≠ b := List.nodup_range
      refine List.Pairwise.imp_of_mem (fun {a b} ha hb ne => ?_) (this.sublist List.filter_sublist)
      have a1 := List.mem_range.mp (List.mem_filter.mp ha).1
      have b1 := List.mem_range.mp (List.mem_filter.mp hb).1
      omega
    rw [List.Nodup, List.pairwise_map]
    exact h
  unfold rv
  rw [sum_pow _ nd]
  by_cases hj : j < m
  · rw [decide_eq_true hj, Bool.true_and]
    cases q : x.testBit (m - 1 - j) with
    | true => exact decide_eq_true (List.mem_map.mpr ⟨m - 1 - j, List.mem_filter.mpr ⟨List.mem_range.mpr (by omega), q⟩, by omega⟩)
    | false =>
      refine decide_eq_false fun z => ?_
      obtain ⟨i, hi, e⟩ := List.mem_map.mp z
      obtain ⟨h1, h2⟩ := List.mem_filter.mp hi
      have := List.mem_range.mp h1
      rw [show m - 1 - j = i by omega, h2] at q; cases q
  · rw [decide_eq_false hj, Bool.false_and]
    refine decide_eq_false fun z => ?_
    obtain ⟨i, hi, e⟩ := List.mem_map.mp z
    have := List.mem_range.mp (List.mem_filter.mp hi).1
    omega
theorem rv_lt (m x : Nat) : rv m x < 2 ^ m := Nat.lt_pow_two_of_testBit _ fun i hi => by rw [rv_bit, decide_eq_false (by omega)]; rfl
theorem rv_rv {m x : Nat} (h : x < 2 ^ m) : rv m (rv m x) = x := Nat.eq_of_testBit_eq fun j => by
  rw [rv_bit, rv_bit]
  by_cases hj : j < m
  · rw [decide_eq_true hj, decide_eq_true (by omega), show m - 1 - (m - 1 - j) = j by omega]; rfl
  · rw [decide_eq_false hj, tb_hi h (Nat.le_of_not_lt hj)]; rfl
end My
namespace My
open PySem
def bd (V : Nat → Nat) : Nat → Nat → Nat
  | 0, _ => 0
  | m + 1, y => bd V m y ^^^ (if y.testBit m = true then V m else 0)
theorem bd_xor (V : Nat → Nat) : ∀ (m x y : Nat), bd V m (x ^^^ y) = bd V m x ^^^ bd V m y
  | 0, _, _ => by simp [bd]
  | m + 1, x, y => by
    show bd V m (x ^^^ y) ^^^ _ = (bd V m x ^^^ _) ^^^ (bd V m y ^^^ _)
    rw [bd_xor V m x y, Nat.testBit_xor]
    refine Nat.eq_of_testBit_eq fun j => ?_
    simp only [Nat.testBit_xor]
    cases x.testBit m <;> cases y.testBit m <;> simp [Nat.testBit_xor] <;> cases (bd V m x).testBit j <;> cases (bd V m y).testBit j <;> cases (V m).testBit j <;> rfl
theorem bd_zero (V : Nat → Nat) : ∀ m : Nat, bd V m 0 = 0
  | 0 => rfl
  | m + 1 => by show bd V m 0 ^^^ _ = 0; rw [bd_zero V m]; simp
theorem bd_bit (V : Nat → Nat) (q : Nat) : ∀ m y : Nat, (bd V m y).testBit q = xsum m fun i => y.testBit i && (V i).testBit q
  | 0, _ => by simp [bd, xsum]
  | m + 1, y => by
    show (bd V m y ^^^ _).testBit q = (xsum m _ ^^ (y.testBit m && (V m).testBit q))
    rw [Nat.testBit_xor, bd_bit V q m y]
    cases y.testBit m <;> simp
theorem bd_pow {V : Nat → Nat} {m p : Nat} (hp : p < m) : bd V m (2 ^ p) = V p := by
  refine Nat.eq_of_testBit_eq fun q => ?_
  rw [bd_bit, xsum_one (l := p) fun j _ ne => by rw [Nat.testBit_two_pow, decide_eq_false (fun z => ne z.symm)]; rfl, Nat.testBit_two_pow]
  simp [hp]
noncomputable def el1 (v f : Nat × Nat) : Nat × Nat := if v.1.testBit (lo f.1) = true then (v.1 ^^^ f.1, v.2 ^^^ f.2) else v
noncomputable def el (k : List (Nat × Nat)) (v : Nat × Nat) : Nat × Nat := k.foldl el1 v
abbrev Ech (k : List (Nat × Nat)) : Prop := k.Pairwise fun a b => b.1.testBit (lo a.1) = false
theorem el_keep : ∀ {k : List (Nat × Nat)} {v : Nat × Nat} {i : Nat}, (∀ f ∈ k, f.1.testBit i = false) → (el k v).1.testBit i = v.1.testBit i
  | [], _, _, _ => rfl
  | f :: k, v, i, h => by
    show (el k (el1 v f)).1.testBit i = _
    rw [el_keep fun g hg => h g (List.mem_cons_of_mem _ hg)]
    unfold el1
    split
    · show (v.1 ^^^ f.1).testBit i = _
      rw [Nat.testBit_xor, h f List.mem_cons_self]; simp
    · rfl
theorem el_low : ∀ {k : List (Nat × Nat)} {v : Nat × Nat}, Ech k → (∀ f ∈ k, f.1 ≠ 0) → ∀ f ∈ k, (el k v).1.testBit (lo f.1) = false
  | [], _, _, _, _, h => by cases h
  | g :: k, v, e, nz, f, hf => by
    obtain ⟨e1, e2⟩ := List.pairwise_cons.mp e
    show (el k (el1 v g)).1.testBit (lo f.1) = false
    rcases List.mem_cons.mp hf with rfl | z
    · rw [el_keep fun h hh => e1 h hh]
      unfold el1
      cases q : v.1.testBit (lo f.1) with
      | true =>
        rw [if_pos rfl]
        show (v.1 ^^^ f.1).testBit _ = false
        rw [Nat.testBit_xor, q, (lo_spec (nz f List.mem_cons_self)).1]; rfl
      | false => rw [if_neg (by decide)]; exact q
    · exact el_low e2 (fun h hh => nz h (List.mem_cons_of_mem _ hh)) f z
theorem el_spn (V : Nat → Nat) (m : Nat) (K : List (Nat × Nat)) : ∀ {k : List (Nat × Nat)} {v : Nat × Nat}, (∀ f ∈ k, f ∈ K ∧ f.1 = bd V m f.2) → v.1 = bd V m v.2 → (el k v).1 = bd V m (el k v).2 ∧ Spn (K.map (·.2)) ((el k v).2 ^^^ v.2)
  | [], v, _, hv => ⟨hv, by show Spn _ (v.2 ^^^ v.2); rw [Nat.xor_self]; exact .zero⟩
  | f :: k, v, h, hv => by
    have h1 : (el1 v f).1 = bd V m (el1 v f).2 := by
      unfold el1
      split
      · show v.1 ^^^ f.1 = bd V m (v.2 ^^^ f.2)
        rw [bd_xor, ← hv, ← (h f List.mem_cons_self).2]
      · exact hv
    have h2 : Spn (K.map (·.2)) ((el1 v f).2 ^^^ v.2) := by
      unfold el1
      split
      · show Spn _ ((v.2 ^^^ f.2) ^^^ v.2)
        rw [Nat.xor_comm v.2 f.2, xor_back]
        exact .mem (List.mem_map_of_mem (h f List.mem_cons_self).1)
      · rw [Nat.xor_self]; exact .zero
    obtain ⟨a, b⟩ := el_spn V m K (k := k) (fun g hg => h g (List.mem_cons_of_mem _ hg)) h1
    refine ⟨a, ?_⟩
    have c := b.xor h2
    rw [← Nat.xor_assoc, xor_back] at c
    exact c
theorem spn_cons {a : Nat} {l : List Nat} {y : Nat} (h : Spn (a :: l) y) : Spn l y ∨ Spn l (a ^^^ y) := by
  induction h with
  | zero => exact .inl .zero
  | add m _ ih =>
    rename_i x y _
    rcases List.mem_cons.mp m with rfl | z
    · rcases ih with ih | ih
      · refine .inr ?_
        rw [← Nat.xor_assoc, Nat.xor_self, Nat.zero_xor]; exact ih
      · exact .inl ih
    · rcases ih with ih | ih
      · exact .inl (.add z ih)
      · refine .inr ?_
        have := Spn.add z ih
        rw [← Nat.xor_assoc, Nat.xor_comm x a, Nat.xor_assoc] at this
        exact this
theorem spn_append {l l' : List Nat} {y : Nat} (h : Spn (l ++ l') y) : ∃ a b, Spn l a ∧ Spn l' b ∧ y = a ^^^ b := by
  induction h with
  | zero => exact ⟨0, 0, .zero, .zero, rfl⟩
  | add m _ ih =>
    obtain ⟨a, b, ha, hb, rfl⟩ := ih
    rename_i x _
    rcases List.mem_append.mp m with z | z
    · exact ⟨x ^^^ a, b, .add z ha, hb, by rw [Nat.xor_assoc]⟩
    · exact ⟨a, x ^^^ b, ha, .add z hb, by rw [← Nat.xor_assoc, ← Nat.xor_assoc, Nat.xor_comm x a]⟩
theorem spn_bd (V : Nat → Nat) (m : Nat) {k : List (Nat × Nat)} (h : ∀ f ∈ k, f.1 = bd V m f.2) {y : Nat} (hy : Spn (k.map (·.2)) y) : Spn (k.map (·.1)) (bd V m y) := by
  induction hy with
  | zero => rw [bd_zero]; exact .zero
  | add hm _ ih =>
    obtain ⟨f, hf, rfl⟩ := List.mem_map.mp hm
    rw [bd_xor, ← h f hf]
    exact .add (List.mem_map_of_mem hf) ih
theorem ech_zero (V : Nat → Nat) (m : Nat) : ∀ {k : List (Nat × Nat)}, Ech k → (∀ f ∈ k, f.1 ≠ 0 ∧ f.1 = bd V m f.2) → ∀ {y : Nat}, Spn (k.map (·.2)) y → (∀ f ∈ k, (bd V m y).testBit (lo f.1) = false) → y = 0
  | [], _, _, y, hy, _ => by
    cases hy with
    | zero => rfl
    | add m _ => cases m
  | f :: k, e, h, y, hy, hb => by
    obtain ⟨e1, e2⟩ := List.pairwise_cons.mp e
    obtain ⟨f1, f2⟩ := h f List.mem_cons_self
    have hk := fun g hg => h g (List.mem_cons_of_mem _ hg)
    rw [List.map_cons] at hy
    rcases spn_cons hy with z | z
    · exact ech_zero V m e2 hk z fun g hg => hb g (List.mem_cons_of_mem _ hg)
    · have b := spn_bit (j := lo f.1) (fun x hx => by
        obtain ⟨g, hg, rfl⟩ := List.mem_map.mp hx
        exact e1 g hg) (spn_bd V m (fun g hg => (hk g hg).2) z)
      rw [bd_xor, ← f2, Nat.testBit_xor, (lo_spec f1).1, hb f List.mem_cons_self] at b
      cases b
structure EIv (V : Nat → Nat) (m j : Nat) (K : List (Nat × Nat)) (F : List Nat) : Prop where
  k1 : ∀ f ∈ K, f.1 ≠ 0 ∧ f.1 = bd V m f.2
  kl : ∀ f ∈ K, f.2 < 2 ^ j
  k2 : Ech K
  f1 : ∀ y ∈ F, y < 2 ^ j ∧ bd V m y = 0
  cov : ∀ y, y < 2 ^ j → Spn (F ++ K.map (·.2)) y
  len : F.length + K.length = j
  fsh : Fsh F
theorem EIv.start (V : Nat → Nat) (m : Nat) : EIv V m 0 [] [] := ⟨fun f h => (by cases h), fun f h => (by cases h), .nil, fun y h => (by cases h), fun y hy => by
  have : y = 0 := by omega
  subst this; exact .zero, rfl, fun i x h => (by cases h)⟩
theorem EIv.run {V : Nat → Nat} {m j : Nat} {K : List (Nat × Nat)} {F : List Nat} (h : EIv V m j K F) (hj : j < m) :
    (el K (V j, 2 ^ j)).1 = bd V m (el K (V j, 2 ^ j)).2 ∧ Spn (K.map (·.2)) ((el K (V j, 2 ^ j)).2 ^^^ 2 ^ j) ∧ (el K (V j, 2 ^ j)).2 < 2 ^ (j + 1) ∧ (el K (V j, 2 ^ j)).2.testBit j = true ∧ ∀ f ∈ K, (el K (V j, 2 ^ j)).1.testBit (lo f.1) = false := by
  obtain ⟨a, b⟩ := el_spn V m K (k := K) (v := (V j, 2 ^ j)) (fun f hf => ⟨hf, (h.k1 f hf).2⟩) (by show V j = bd V m (2 ^ j); rw [bd_pow hj])
  have c : (el K (V j, 2 ^ j)).2 ^^^ 2 ^ j < 2 ^ j := Spn.lt (fun x hx => by
    obtain ⟨f, hf, rfl⟩ := List.mem_map.mp hx
    exact h.kl f hf) b
  have d : ((el K (V j, 2 ^ j)).2 ^^^ 2 ^ j) ^^^ 2 ^ j = (el K (V j, 2 ^ j)).2 := xor_back _ _
  have p : 2 ^ j < 2 ^ (j + 1) := Nat.pow_lt_pow_right (by decide) (by omega)
  refine ⟨a, b, ?_, ?_, el_low h.k2 (fun f hf => (h.k1 f hf).1)⟩
  · rw [← d]; exact Nat.xor_lt_two_pow (by omega) p
  · rw [← d, Nat.testBit_xor, Nat.testBit_lt_two_pow c, Nat.testBit_two_pow]; simp
theorem Fsh.snoc {F : List Nat} {x j : Nat} (h : Fsh F) (hx : x.testBit j = true) (hF : ∀ y ∈ F, y < 2 ^ j) : Fsh (F ++ [x]) := fun i z hz => by
  by_cases hi : i < F.length
  · rw [List.getElem?_append_left hi] at hz
    obtain ⟨l, h1, h2⟩ := h i z hz
    exact ⟨l, h1, fun y hy => h2 y (by rwa [List.take_append_of_le_length (by omega)] at hy)⟩
  · have hl : i < (F ++ [x]).length := (List.getElem?_eq_some_iff.mp hz).1
    rw [List.length_append] at hl
    have e : i = F.length := by
      have : i < F.length + 1 := hl
      omega
    subst e
    have ez : x = z := by simpa using hz
    subst ez
    refine ⟨j, hx, fun y hy => ?_⟩
    rw [List.take_append_of_le_length (Nat.le_refl _), List.take_of_length_le (Nat.le_refl _)] at hy
    exact Nat.testBit_lt_two_pow (hF y hy)
theorem EIv.next {V : Nat → Nat} {m j : Nat} {K : List (Nat × Nat)} {F : List Nat} (h : EIv V m j K F) (hj : j < m) :
    if (el K (V j, 2 ^ j)).1 = 0 then EIv V m (j + 1) K (F ++ [(el K (V j, 2 ^ j)).2]) else EIv V m (j + 1) (K ++ [el K (V j, 2 ^ j)]) F := by
  obtain ⟨a, b, c, d, e⟩ := h.run hj
  have mono : ∀ {x : Nat}, x < 2 ^ j → x < 2 ^ (j + 1) := fun hx => Nat.lt_trans hx (Nat.pow_lt_pow_right (by decide) (by omega))
  generalize el K (V j, 2 ^ j) = r at a b c d e
  have big : ∀ {l : List Nat}, (∀ x ∈ F ++ K.map (·.2), Spn l x) → Spn l r.2 → ∀ y, y < 2 ^ (j + 1) → Spn l y := fun {l} hl hr y hy => by
    by_cases q : y.testBit j = true
    · have lt : y ^^^ r.2 < 2 ^ j := by
        refine Nat.lt_pow_two_of_testBit _ fun i hi => ?_
        rw [Nat.testBit_xor]
        by_cases e2 : i = j
        · subst e2; rw [q, d]; rfl
        · rw [tb_hi hy (by omega), tb_hi c (by omega)]; rfl
      have := ((h.cov _ lt).mono hl).xor hr
      rwa [xor_back] at this
    · have lt : y < 2 ^ j := by
        refine Nat.lt_pow_two_of_testBit _ fun i hi => ?_
        by_cases e2 : i = j
        · subst e2; simpa using q
        · exact tb_hi hy (by omega)
      exact (h.cov _ lt).mono hl
  split
  · rename_i z
    refine ⟨h.k1, fun f hf => mono (h.kl f hf), h.k2, fun y hy => ?_, big (fun x hx => ?_) ?_, ?_, h.fsh.snoc d fun y hy => (h.f1 y hy).1⟩
    · rcases List.mem_append.mp hy with w | w
      · exact ⟨mono (h.f1 y w).1, (h.f1 y w).2⟩
      · rw [List.mem_singleton] at w; rw [w]; exact ⟨c, by rw [← a, z]⟩
    · refine .mem ?_
      rcases List.mem_append.mp hx with w | w
      · exact List.mem_append_left _ (List.mem_append_left _ w)
      · exact List.mem_append_right _ w
    · exact .mem (List.mem_append_left _ (by simp))
    · rw [List.length_append]
      have := h.len
      show F.length + 1 + K.length = j + 1
      omega
  · rename_i z
    refine ⟨fun f hf => ?_, fun f hf => ?_, ?_, fun y hy => ⟨mono (h.f1 y hy).1, (h.f1 y hy).2⟩, big (fun x hx => ?_) ?_, ?_, h.fsh⟩
    · rcases List.mem_append.mp hf with w | w
      · exact h.k1 f w
      · rw [List.mem_singleton] at w; rw [w]; exact ⟨z, a⟩
    · rcases List.mem_append.mp hf with w | w
      · exact mono (h.kl f w)
      · rw [List.mem_singleton] at w; rw [w]; exact c
    · rw [Ech, List.pairwise_append]
      refine ⟨h.k2, List.pairwise_singleton _ _, fun x hx y hy => ?_⟩
      rw [List.mem_singleton] at hy; rw [hy]; exact e x hx
    · refine .mem ?_
      rw [List.map_append]
      rcases List.mem_append.mp hx with w | w
      · exact List.mem_append_left _ w
      · exact List.mem_append_right _ (List.mem_append_left _ w)
    · refine .mem (List.mem_append_right _ ?_)
      rw [List.map_append]; simp
    · rw [List.length_append]
      have := h.len
      show F.length + (K.length + 1) = j + 1
      omega
theorem EIv.done {V : Nat → Nat} {m : Nat} {K : List (Nat × Nat)} {F : List Nat} (h : EIv V m m K F) (y : Nat) : Spn F y ↔ y < 2 ^ m ∧ bd V m y = 0 := by
  have bF : ∀ {a}, Spn F a → bd V m a = 0 := fun {a} ha => by
    induction ha with
    | zero => exact bd_zero V m
    | add hm _ ih => rw [bd_xor, (h.f1 _ hm).2, ih]; rfl
  constructor
  · intro hy
    exact ⟨Spn.lt (fun x hx => (h.f1 x hx).1) hy, bF hy⟩
  · rintro ⟨h1, h2⟩
    obtain ⟨a, b, ha, hb, rfl⟩ := spn_append (h.cov y h1)
    rw [bd_xor, bF ha, Nat.zero_xor] at h2
    have : b = 0 := ech_zero V m h.k2 h.k1 hb fun f hf => by rw [h2]; simp
    rw [this, Nat.xor_zero]; exact ha
theorem EIv.none {V : Nat → Nat} {m j : Nat} {K : List (Nat × Nat)} {F : List Nat} (h : EIv V m j K F) (hj : j < m) {y : Nat} (hy : y < 2 ^ j) (e : bd V m y = V j) : (el K (V j, 2 ^ j)).1 = 0 := by
  obtain ⟨a, b, _, _, d⟩ := h.run hj
  have bF : ∀ {a}, Spn F a → bd V m a = 0 := fun {a} ha => by
    induction ha with
    | zero => exact bd_zero V m
    | add hm _ ih => rw [bd_xor, (h.f1 _ hm).2, ih]; rfl
  have c : (el K (V j, 2 ^ j)).2 ^^^ 2 ^ j < 2 ^ j := Spn.lt (fun x hx => by
    obtain ⟨f, hf, rfl⟩ := List.mem_map.mp hx
    exact h.kl f hf) b
  have z : bd V m (((el K (V j, 2 ^ j)).2 ^^^ 2 ^ j) ^^^ y) = (el K (V j, 2 ^ j)).1 := by
    rw [bd_xor, bd_xor, bd_pow hj, e, ← a, xor_back]
  obtain ⟨u, v, hu, hv, ez⟩ := spn_append (h.cov _ (Nat.xor_lt_two_pow c hy))
  rw [ez, bd_xor, bF hu, Nat.zero_xor] at z
  have : v = 0 := ech_zero V m h.k2 h.k1 hv fun f hf => by rw [z]; exact d f hf
  rw [← z, this, bd_zero]
end My
namespace My
open PySem L2
abbrev iV (n : Nat) : V := .int (n : Int)
def LsN (H : Hp) (a : Addr) (ms : List Nat) : Prop := H a = some (.lst (ms.map iV))
theorem boot_min' : bootBuiltins "min" = some (.builtin "min") := by decide +kernel
theorem boot_sum' : bootBuiltins "sum" = some (.builtin "sum") := by decide +kernel
theorem str_get {as : List Str} {i : Nat} {x : V} (e : (as.map V.str)[i]? = some x) : ∃ a, x = .str a ∧ as[i]? = some a := by
  rw [List.getElem?_map] at e
  cases ha : as[i]? with
  | none => rw [ha] at e; cases e
  | some a => rw [ha] at e; exact ⟨a, (Option.some.inj e).symm, rfl⟩
theorem ref_get {as : List Addr} {i : Nat} {x : V} (e : (as.map V.ref)[i]? = some x) : ∃ a, x = .ref a ∧ as[i]? = some a := by
  rw [List.getElem?_map] at e
  cases ha : as[i]? with
  | none => rw [ha] at e; cases e
  | some a => rw [ha] at e; exact ⟨a, (Option.some.inj e).symm, rfl⟩
theorem iv_get {ms : List Nat} {i : Nat} {x : V} (e : (ms.map iV)[i]? = some x) : ∃ n, x = iV n ∧ ms[i]? = some n := by
  rw [List.getElem?_map] at e
  cases ha : ms[i]? with
  | none => rw [ha] at e; cases e
  | some a => rw [ha] at e; exact ⟨a, (Option.some.inj e).symm, rfl⟩
theorem iv_ints (ms : List Nat) : ms.map iV = (ms.map fun n : Nat => (n : Int)).map V.int := by rw [List.map_map]; rfl
def maskF (names row : List Str) : Nat := names.foldl (fun m n => 2 * m + (if n ∈ row then 1 else 0)) 0
theorem maskF_snoc (names row : List Str) (n : Str) : maskF (names ++ [n]) row = 2 * maskF names row + (if n ∈ row then 1 else 0) := by unfold maskF; rw [List.foldl_append]; rfl
theorem maskF_bit (row : List Str) (names : List Str) : ∀ j, (maskF names row).testBit j = (decide (j < names.length) && decide (∃ n, names[names.length - 1 - j]? = some n ∧ n ∈ row)) := by
  refine snoc_ind (P := fun names => ∀ j, (maskF names row).testBit j = (decide (j < names.length) && decide (∃ n, names[names.length - 1 - j]? = some n ∧ n ∈ row))) (fun j => by simp [maskF]) (fun l n ih j => ?_) names
  rw [maskF_snoc, List.length_append]
  show _ = (decide (j < l.length + 1) && decide (∃ m, (l ++ [n])[l.length + 1 - 1 - j]? = some m ∧ m ∈ row))
  cases j with
  | zero =>
    rw [Nat.testBit_zero, decide_eq_true (by omega : 0 < l.length + 1), Bool.true_and]
    refine decide_eq_decide.mpr ?_
    rw [show l.length + 1 - 1 - 0 = l.length by omega, List.getElem?_append_right (Nat.le_refl _)]
    simp
    by_cases h : n ∈ row
    · simp [h]
    · simp [h]
  | succ j =>
    rw [Nat.testBit_succ, show (2 * maskF l row + (if n ∈ row then 1 else 0)) / 2 = maskF l row by split <;> omega, ih j]
    by_cases hj : j < l.length
    · rw [decide_eq_true hj, decide_eq_true (by omega : j + 1 < l.length + 1), show l.length + 1 - 1 - (j + 1) = l.length - 1 - j by omega, List.getElem?_append_left (by omega)]
    · rw [decide_eq_false hj, decide_eq_false (by omega : ¬ j + 1 < l.length + 1)]; rfl
theorem maskF_lt (names row : List Str) : maskF names row < 2 ^ names.length := Nat.lt_pow_two_of_testBit _ fun i hi => by rw [maskF_bit, decide_eq_false (by omega)]; rfl
def spMask : Sp := fun vs H Q _ => ∃ (pn pr : Addr) (names row : List Str), vs = [.ref pn, .ref pr] ∧ LsS H pn names ∧ LsS H pr row ∧ Q (iV (maskF names row)) H
def rowM (names : List Str) (x : Nat) : List Str := (List.range names.length).filterMap fun i => if x.testBit (names.length - 1 - i) = true then names[i]? else none
def spRowOf : Sp := fun vs H Q _ => ∃ (pn : Addr) (names : List Str) (x : Nat), vs = [.ref pn, iV x] ∧ LsS H pn names ∧ names.length ≤ 12 ∧ ∀ r H', Ext H H' → H r = none → LsS H' r (rowM names x) → Q (.ref r) H'
theorem shr_one (x k : Nat) : Builtin.bitAnd ((x : Int) / 2 ^ k) 1 = if x.testBit k = true then 1 else 0 := by
  have e : (x : Int) / 2 ^ k = ((x / 2 ^ k : Nat) : Int) := by rw [Int.natCast_ediv, Int.natCast_pow]; rfl
  have e1 : (1 : Int) = ((1 : Nat) : Int) := rfl
  rw [e]
  show Builtin.bitAnd _ ((1 : Nat) : Int) = _
  rw [band_nat, Nat.and_one_is_mod, Nat.testBit_eq_decide_div_mod_eq]
  rcases Nat.mod_two_eq_zero_or_one (x / 2 ^ k) with h | h <;> rw [h] <;> rfl
def spLess : Sp := fun vs H Q _ => ∃ (x : Nat) (p : Addr) (k : List Nat), vs = [iV x, .ref p] ∧ LsN H p k ∧ (∀ s ∈ k, s ≠ 0) ∧ Q (iV (red1 k x)) H
theorem min_int (x : Nat) {s : Nat} (hs : s ≠ 0) : (if Builtin.bitXor (x : Int) (s : Int) < (x : Int) then Builtin.bitXor (x : Int) (s : Int) else (x : Int)) = ((rd1 x s : Nat) : Int) := by
  rw [bxor_nat, ← min_rd1 x hs]
  by_cases h : x ^^^ s < x
  · rw [if_pos h, if_pos (by omega)]
  · rw [if_neg h, if_neg (by omega)]
def spRedu : Sp := fun vs H Q _ => ∃ (p : Addr) (ms : List Nat), vs = [.ref p] ∧ LsN H p ms ∧ ms.length ≤ 24 ∧ ∀ (r : Addr) (M : List Nat) (H' : Hp), Ext H H' → H r = none → LsN H' r M → M.Perm (red ms) → M.Pairwise (fun a b => b ≤ a) → Q (.ref r) H'
def spLead : Sp := fun vs H Q _ => ∃ x : Nat, vs = [iV x] ∧ x ≠ 0 ∧ x < 2 ^ 24 ∧ Q (iV (2 ^ x.log2)) H
theorem redS_len (k : List Nat) (x : Nat) : (redS k x).length ≤ k.length + 1 := by
  unfold redS
  split
  · omega
  · rw [List.length_append, List.length_map]; exact Nat.le_refl _
theorem red_le (xs : List Nat) : (red xs).length ≤ xs.length := by
  refine snocN (P := fun xs => (red xs).length ≤ xs.length) (Nat.le_refl _) (fun l t ih => ?_) xs
  rw [red_snoc, List.length_append]
  have := redS_len (red l) t
  show _ ≤ l.length + 1
  omega
section
variable {P : Program} {w : World} {K : PySem.W.Frag} {mg : Str → Option Value} {base : Heap} {f f1 f2 : Addr} {fd fd1 fd2 : FuncData}
abbrev maN : List Str := ["names", "row", "mask", "name"]
theorem scMask : FnScope maN ["names", "row"] (defScope sMask) := ⟨rfl, rfl, rfl, by decide +kernel, rfl, by decide +kernel, by decide +kernel⟩
set_option maxHeartbeats 4000000 in
theorem ok_mask (F : Fun K "mask_of" "mask_of" sMask f fd) : FnOk P w K mg base CX0 1 f fd ["names", "row"] spMask := by
  refine F.ok scMask (fun vs H Q E h => ?_) (fun cdv A outer s H vs Q E hr h => ?_)
  · obtain ⟨pn, pr, names, row, rfl, _⟩ := h
    rfl
  obtain ⟨pn, pr, names, row, rfl, hn, hw, q⟩ := h
  refine ⟨_, pss_cons (ps_set (i := 2) scMask.nd rfl (Or.inl rfl) pe_int)
    (pss_cons (ps_for PassesOwn.never rfl (pi_list (pv 0)) (pg_name (i := 3) scMask.nd rfl (Or.inl rfl))
      (pss_one (ps_set (i := 2) scMask.nd rfl (Or.inl rfl) (pe_op op_add (pe_op op_mul pe_int (pv 2)) (pe_ifExp (pt_cmpR op_in_seq (pv 3) (pv 1) (by with_unfolding_all rfl)) pe_int pe_int)))))
    (pss_one (ps_ret (pv 2)))), ?_⟩
  refine ⟨_, rfl, pn, rfl, ⟨_, SqL.of hn⟩, ?_⟩
  refine for_list (xs := names.map V.str) (fun i σ H' => H' = H ∧ ∃ x3 : Option V, σ = [some (.ref pn), some (.ref pr), some (iV (maskF (names.take i) row)), x3]) ⟨rfl, none, rfl⟩ (fun i σ H' _ h => by rw [h.1]; exact SqL.of hn) ?_ ?_
  · rintro i x σ H' hx ⟨rfl, x3, rfl⟩
    obtain ⟨y, rfl, hy⟩ := str_get hx
    refine ⟨_, rfl, _, _, rfl, rfl, .inl ⟨by decide, by decide⟩, _, rfl, _, rfl, pr, _, rfl, .inl (SqL.of hw), rfl, flat_strs _, _, rfl, ?_⟩
    rw [if_neg (by decide), inV_str]
    refine ite2 (fun c => ?_) (fun c => ?_)
    · have c' : y ∈ row := by simpa using c
      refine ⟨_, _, rfl, rfl, rfl, some (.str y), ?_⟩
      rw [show iV (maskF (names.take (i + 1)) row) = V.int (2 * ((maskF (names.take i) row : Nat) : Int) + 1) by rw [take_snoc hy, maskF_snoc, if_pos c']; rfl]
      rfl
    · have c' : ¬ y ∈ row := by simpa using c
      refine ⟨_, _, rfl, rfl, rfl, some (.str y), ?_⟩
      rw [show iV (maskF (names.take (i + 1)) row) = V.int (2 * ((maskF (names.take i) row : Nat) : Int) + 0) by rw [take_snoc hy, maskF_snoc, if_neg c']; rfl]
      rfl
  · rintro σ H' ⟨rfl, x3, rfl⟩
    rw [List.length_map, List.take_of_length_le (Nat.le_refl _)]
    exact ⟨_, rfl, q⟩
theorem scRowOf : FnScope ["names", "mask", "last"] ["names", "mask"] (defScope sRowOf) := ⟨rfl, rfl, rfl, by decide +kernel, rfl, by decide +kernel, by decide +kernel⟩
abbrev roN : List Str := ["at", "name", "mask", "last"]
set_option maxHeartbeats 4000000 in
theorem ok_rowOf (F : Fun K "row_of" "row_of" sRowOf f fd) (ml : mg "len" = none) (me : mg "enumerate" = none) : FnOk P w K mg base CX0 1 f fd ["names", "mask"] spRowOf := by
  refine F.ok scRowOf (fun vs H Q E h => ?_) (fun cdv A outer s H vs Q E hr h => ?_)
  · obtain ⟨pn, names, x, rfl, _⟩ := h
    rfl
  obtain ⟨pn, names, x, rfl, hn, ln, q⟩ := h
  refine ⟨_, pss_cons (ps_set (i := 2) scRowOf.nd rfl (Or.inr rfl) (pe_op op_sub (pe_callB call_len_seq rfl ml PySem.boot_len (pa_cons (pv 0) pa_nil)) pe_int))
    (pss_one (ps_ret (pe_lc (N := ["names", "mask", "last"]) (sc := defScope sRowOf) (N' := roN) (sub := [none, none, some 1, some 2]) rfl rfl (CmpOk.of (by decide +kernel)) rfl (pi_enum rfl me (pa_cons (pv 0) pa_nil))
      (fun C s H fp => ⟨(show PG _ _ (gTup K 2 _) from pg_tup rfl (pgs_cons (pg_name (i := 0) (by show roN.Nodup; decide) rfl (Or.inl rfl)) (pgs_cons (pg_name (i := 1) (by show roN.Nodup; decide) rfl (Or.inl rfl)) pgs_nil))),
        pts_one (pt_cmpR op_eq (pe_op op_and (pe_op op_shr (pv 2) (pe_op op_sub (pv 3) (pv 0))) pe_int) pe_int (nomark _)), pv 1⟩)))), ?_⟩
  refine ⟨_, rfl, pn, _, rfl, .inl (SqL.of hn), _, _, rfl, rfl, ?_⟩
  refine ⟨_, rfl, pn, _, rfl, SqL.of hn, ?_⟩
  rw [List.length_map]
  refine turns_tup (fun i ys H' => Ext H H' ∧ ys = ((List.range i).filterMap fun i => if x.testBit (names.length - 1 - i) = true then names[i]? else none).map V.str) ⟨Ext.refl _, rfl⟩ (fun i ys H' _ p => SqL.of (p.1 _ _ hn)) ?_ ?_
  · rintro i ys H' T hi ⟨e, rfl⟩ hT
    have gd : (names.map V.str).getD i .non = .str names[i] := by rw [List.getD_eq_getElem?_getD, List.getElem?_map, List.getElem?_eq_getElem hi]; rfl
    have e2 := e.trans (Ext.new hT (.tup [V.int (i : Nat), (names.map V.str).getD i .non]))
    refine ⟨T, _, rfl, SqT.of upd_same, rfl, _, _, rfl, _, _, rfl, rfl, ?_⟩
    refine ⟨Sle.set _ (Sle.set _ (Sle.refl _) (fun u z => by cases z)) (fun u z => by cases z), ?_⟩
    have k : (((names.length : Nat) : Int) - 1 - (i : Nat)) = ((names.length - 1 - i : Nat) : Int) := by omega
    refine ⟨_, rfl, _, rfl, _, rfl, _, _, rfl, rfl, _, _, rfl, rfl, (by show (0 : Int) ≤ _; omega), _, _, rfl, rfl, rfl, _, rfl, ?_⟩
    have fm : ((List.range (i + 1)).filterMap fun i => if x.testBit (names.length - 1 - i) = true then names[i]? else none) = ((List.range i).filterMap fun i => if x.testBit (names.length - 1 - i) = true then names[i]? else none) ++ (if x.testBit (names.length - 1 - i) = true then [names[i]] else []) := by
      rw [List.range_succ, List.filterMap_append]
      congr 1
      by_cases b : x.testBit (names.length - 1 - i) = true
      · simp [b, List.getElem?_eq_getElem hi]
      · simp [b]
    have sz := List.length_filterMap_le (fun i => if x.testBit (names.length - 1 - i) = true then names[i]? else none) (List.range i)
    rw [List.length_range] at sz
    have key : (decide (V.int (Builtin.bitAnd ((x : Int) / 2 ^ (((names.length : Nat) : Int) - 1 - (i : Nat)).toNat) 1) = V.int 1) = true) ↔ x.testBit (names.length - 1 - i) = true := by
      rw [decide_eq_true_iff, V.int.injEq, k, Int.toNat_natCast, shr_one]
      by_cases b : x.testBit (names.length - 1 - i) = true
      · simp [b]
      · simp [b]
    refine ite2 (fun c => ?_) (fun c => ?_)
    · have b := key.mp c
      refine ⟨_, rfl, by rw [List.length_map]; exact small1000 (by omega), nxt hi ⟨e2, ?_⟩⟩
      rw [fm, if_pos b, List.map_append, gd]; rfl
    · have b : ¬ x.testBit (names.length - 1 - i) = true := fun z => c (key.mpr z)
      refine nxt hi ⟨e2, ?_⟩
      rw [fm, if_neg b, List.append_nil]
  · rintro ys H' ⟨e, rfl⟩ r hr'
    exact q r _ (e.trans (Ext.new hr' _)) (e.none hr') upd_same
theorem scLess : FnScope ["mask", "kept", "step"] ["mask", "kept"] (defScope sLess) := ⟨rfl, rfl, rfl, by decide +kernel, rfl, by decide +kernel, by decide +kernel⟩
set_option maxHeartbeats 4000000 in
theorem ok_less (F : Fun K "lessened" "lessened" sLess f fd) (mmi : mg "min" = none) : FnOk P w K mg base CX0 1 f fd ["mask", "kept"] spLess := by
  refine F.ok scLess (fun vs H Q E h => ?_) (fun cdv A outer s H vs Q E hr h => ?_)
  · obtain ⟨x, p, k, rfl, _⟩ := h
    rfl
  obtain ⟨x, p, k, rfl, hk, nz, q⟩ := h
  refine ⟨_, pss_cons (ps_for PassesOwn.never rfl (pi_list (pv 1)) (pg_name (i := 2) scLess.nd rfl (Or.inl rfl))
      (pss_one (ps_set (i := 0) scLess.nd rfl (Or.inl rfl) (pe_callB (call_min2 rfl) rfl mmi boot_min' (pa_cons (pv 0) (pa_cons (pe_op op_xor (pv 0) (pv 2)) pa_nil))))))
    (pss_one (ps_ret (pv 0))), ?_⟩
  refine ⟨_, rfl, p, rfl, ⟨_, SqL.of hk⟩, ?_⟩
  refine for_list (xs := k.map iV) (fun i σ H' => H' = H ∧ ∃ x2 : Option V, σ = [some (iV (red1 (k.take i) x)), some (.ref p), x2]) ⟨rfl, none, rfl⟩ (fun i σ H' _ h => by rw [h.1]; exact SqL.of hk) ?_ ?_
  · rintro i v σ H' hx ⟨rfl, x2, rfl⟩
    obtain ⟨s, rfl, hs⟩ := iv_get hx
    refine ⟨_, rfl, _, rfl, _, rfl, _, _, rfl, rfl, _, _, rfl, rfl, some (iV s), ?_⟩
    rw [min_int _ (nz s (List.mem_of_getElem? hs)), show red1 (k.take (i + 1)) x = rd1 (red1 (k.take i) x) s by rw [take_snoc hs]; unfold red1; rw [List.foldl_append]; rfl]
    rfl
  · rintro σ H' ⟨rfl, x2, rfl⟩
    rw [List.length_map, List.take_of_length_le (Nat.le_refl _)]
    exact ⟨_, rfl, q⟩
theorem scRedu : FnScope ["masks", "kept", "mask", "fresh"] ["masks"] (defScope sRedu) := ⟨rfl, rfl, rfl, by decide +kernel, rfl, by decide +kernel, by decide +kernel⟩
set_option maxHeartbeats 4000000 in
theorem ok_redu (F : Fun K "reduced" "reduced" sRedu f fd) (G : FnOk P w K mg base CX0 1 f1 fd1 ["mask", "kept"] spLess) (bG : Binds K fd1 ["mask", "kept"] []) (kG : PySem.W.keepIn K (.ref f1) = true) (mG : mg "lessened" = some (.ref f1)) (mmi : mg "min" = none) (mso : mg "sorted" = none) : FnOk P w K mg base CX0 2 f fd ["masks"] spRedu := by
  refine F.ok scRedu (fun vs H Q E h => ?_) (fun cdv A outer s H vs Q E hr h => ?_)
  · obtain ⟨p, ms, rfl, _⟩ := h
    rfl
  obtain ⟨p, ms, rfl, hp, lm, q⟩ := h
  refine ⟨_, pss_cons (ps_set (i := 1) scRedu.nd rfl (Or.inl rfl) (pe_lst pa_nil))
    (pss_cons (ps_for PassesOwn.never rfl (pi_list (pv 0)) (pg_name (i := 2) scRedu.nd rfl (Or.inl rfl))
      (pss_cons (ps_set (i := 3) scRedu.nd rfl (Or.inr rfl) (pe_call G hr rfl mG kG bG .nil pass0 (pa_cons (pv 2) (pa_cons (pv 1) pa_nil))))
      (pss_one (ps_if (pt_cmpR op_ne (pv 3) pe_int (nomark _))
        (pss_one (ps_set (i := 1) scRedu.nd rfl (Or.inl rfl) (pe_op op_cat (pe_lc (N := ["masks", "kept", "mask", "fresh"]) (sc := defScope sRedu) (N' := ["step", "fresh"]) (sub := [none, some 3]) rfl rfl (CmpOk.of (by decide +kernel)) rfl (pi_list (pv 1))
          (fun C s H fp => ⟨pg_name (i := 0) (by show (["step", "fresh"] : List Str).Nodup; decide) rfl (Or.inl rfl), pts_nil, pe_callB (call_min2 rfl) rfl mmi boot_min' (pa_cons (pv 0) (pa_cons (pe_op op_xor (pv 0) (pv 1)) pa_nil))⟩)) (pe_lst (pa_cons (pv 3) pa_nil)))))
        pss_nil))))
    (pss_one (ps_ret (pe_sortRev rfl mso (pa_cons (pv 1) pa_nil))))), ?_⟩
  refine ⟨Nat.zero_le _, fun ke ke0 => ?_⟩
  have X0 := Ext.new ke0 (.lst [])
  refine ⟨_, rfl, p, rfl, ⟨_, SqL.of (X0 _ _ hp)⟩, ?_⟩
  refine for_list (xs := ms.map iV) (fun i σ H' => ∃ (ke : Addr) (x2 x3 : Option V), σ = [some (.ref p), some (.ref ke), x2, x3] ∧ Ext H H' ∧ LsN H' ke (red (ms.take i))) ⟨ke, none, none, rfl, X0, upd_same⟩ (fun i σ H' _ h => by obtain ⟨_, _, _, _, e, _⟩ := h; exact SqL.of (e _ _ hp)) ?_ ?_
  · rintro i v σ H' hx ⟨ke, x2, x3, rfl, e, hk⟩
    obtain ⟨m, rfl, hm⟩ := iv_get hx
    have hi : i < ms.length := at_lt hm
    have rr := red_rr (ms.take i)
    have lr := red_le (ms.take i)
    rw [List.length_take] at lr
    refine ⟨_, rfl, _, rfl, m, ke, _, rfl, hk, rr.nz, ?_⟩
    have sn : red (ms.take (i + 1)) = redS (red (ms.take i)) m := by rw [take_snoc hm, red_snoc]
    refine ⟨_, rfl, rfl, _, rfl, ?_⟩
    refine ite2 (fun c => ?_) (fun c => ?_)
    · have c' : red1 (red (ms.take i)) m ≠ 0 := fun z => by rw [z] at c; simp at c
      refine ⟨_, rfl, ke, rfl, ⟨_, SqL.of hk⟩, ?_⟩
      refine turns_list (xs := (red (ms.take i)).map iV) (fun j ys H2 => H2 = H' ∧ ys = (((red (ms.take i)).take j).map fun s => rd1 s (red1 (red (ms.take i)) m)).map iV) ⟨rfl, rfl⟩ (fun j ys H2 _ h => by rw [h.1]; exact SqL.of hk) ?_ ?_
      · rintro j x ys H2 hx2 ⟨rfl, rfl⟩
        obtain ⟨s, rfl, hs⟩ := iv_get hx2
        have hj := at_lt hs
        refine ⟨Sle.set _ (Sle.refl _) (fun u z => by cases z), iteT (B := False) ⟨_, rfl, _, rfl, _, rfl, _, _, rfl, rfl, _, _, rfl, ?_, nxt (at_lt hx2) ⟨rfl, ?_⟩⟩⟩
        · rw [List.length_map, List.length_map, List.length_take]; exact small1000 (by omega)
        · rw [min_int _ c', take_snoc hs, List.map_append, List.map_append]; rfl
      · rintro ys H2 ⟨rfl, rfl⟩ l hl
        rw [List.length_map, List.take_of_length_le (Nat.le_refl _)]
        have n1 := Ext.new hl (.lst (((red (ms.take i)).map fun s => rd1 s (red1 (red (ms.take i)) m)).map iV))
        refine ⟨_, rfl, (by show 1 ≤ sizeLine; decide), fun l2 hl2 => ?_⟩
        have n2 := Ext.new hl2 (.lst [iV (red1 (red (ms.take i)) m)])
        refine ⟨l, l2, _, _, rfl, rfl, n2 _ _ upd_same, upd_same, ?_, fun l3 hl3 => ?_⟩
        · rw [List.length_map, List.length_map]
          show _ + 1 ≤ sizeLine
          exact Nat.le_of_lt (small1000 (by omega))
        · refine ⟨l3, _, _, rfl, ((e.trans n1).trans n2).trans (Ext.new hl3 _), ?_⟩
          rw [sn]
          unfold redS LsN
          rw [if_neg c', upd_same, List.map_append]
          rfl
    · have c' : red1 (red (ms.take i)) m = 0 := by
        have : (red1 (red (ms.take i)) m : Int) = 0 := by simpa using c
        omega
      refine ⟨ke, _, _, rfl, e, ?_⟩
      rw [sn]
      unfold redS
      rw [if_pos c']
      exact hk
  · rintro σ H' ⟨ke, x2, x3, rfl, e, hk⟩
    rw [List.length_map, List.take_of_length_le (Nat.le_refl _)] at hk
    have lr := red_le ms
    refine ⟨_, rfl, ke, (red ms).map (fun n : Nat => (n : Int)), rfl, by rw [← iv_ints]; exact SqL.of hk, by rw [List.length_map]; omega, fun r ns hr' pm od => ?_⟩
    have od' : ns.Pairwise fun a b => a ≥ b := od
    obtain ⟨M, rfl⟩ : ∃ M : List Nat, ns = M.map (fun n : Nat => (n : Int)) := by
      refine ⟨ns.map Int.toNat, ?_⟩
      rw [List.map_map]
      refine (List.map_id _).symm.trans (List.map_congr_left fun a ha => ?_)
      obtain ⟨n, _, rfl⟩ := List.mem_map.mp (pm.mem_iff.mp ha)
      simp
    have pm' : M.Perm (red ms) := by
      have := pm.map Int.toNat
      rw [List.map_map, List.map_map] at this
      have idn : (Int.toNat ∘ fun n : Nat => (n : Int)) = id := by funext n; simp
      rw [idn, List.map_id, List.map_id] at this
      exact this
    refine q r M _ (e.trans (Ext.new hr' _)) (e.none hr') (by unfold LsN; rw [upd_same, iv_ints]) pm' ?_
    rw [List.pairwise_map] at od'
    exact List.Pairwise.imp (fun {a b} h => by omega) od'
theorem scLead : FnScope ["mask"] ["mask"] (defScope sLead) := ⟨rfl, rfl, rfl, by decide +kernel, rfl, by decide +kernel, by decide +kernel⟩
set_option maxHeartbeats 4000000 in
theorem ok_lead (F : Fun K "lead_of" "lead_of" sLead f fd) : FnOk P w K mg base CX0 1 f fd ["mask"] spLead := by
  refine F.ok scLead (fun vs H Q E h => ?_) (fun cdv A outer s H vs Q E hr h => ?_)
  · obtain ⟨x, rfl, _⟩ := h
    rfl
  obtain ⟨x, rfl, nz, lt, q⟩ := h
  refine ⟨_, pss_one (ps_ret (pe_op op_shl pe_int (pe_op op_sub (pe_bm0 PySem.F.plainAttrs_int PySem.F.slot_int_bit_length PySem.F.type_int_bit_length mt_bits (pv 0)) pe_int))), ?_⟩
  have l24 : x.log2 < 24 := (Nat.log2_lt nz).mpr lt
  have ib : Builtin.Int.intBits (x : Int) = x.log2 + 1 := by
    unfold Builtin.Int.intBits
    rw [if_neg (by simpa using nz)]
    simp
  refine ⟨_, rfl, rfl, x, rfl, rfl, _, _, rfl, rfl, _, _, rfl, rfl, ?_⟩
  rw [ib]
  have e : ((x.log2 + 1 : Nat) : Int) - 1 = (x.log2 : Nat) := by omega
  rw [e]
  refine ⟨⟨by omega, by omega, by decide⟩, ?_⟩
  dsimp only
  rw [Int.toNat_natCast, Int.one_mul]
  have p2 : ((2 : Int) ^ x.log2) = ((2 ^ x.log2 : Nat) : Int) := by rw [Int.natCast_pow]; rfl
  rw [p2]
  exact q
end
end My
namespace My
open PySem L2
theorem RR.perm {a b : List Nat} (h : RR a) (p : b.Perm a) : RR b := ⟨fun s hs => h.nz s (p.mem_iff.mp hs), (p.pairwise_iff (fun {x y} z => ⟨z.2, z.1⟩)).mpr h.ap⟩
theorem sum_cast : ∀ l : List Nat, (l.map fun n : Nat => (n : Int)).sum = ((l.sum : Nat) : Int)
  | [] => rfl
  | a :: l => by rw [List.map_cons, List.sum_cons, List.sum_cons, sum_cast l]; omega
theorem shl_nat (p : Nat) : (1 : Int) * 2 ^ ((p : Int)).toNat = ((2 ^ p : Nat) : Int) := by
  rw [Int.toNat_natCast, Int.one_mul, Int.natCast_pow]; rfl
def spCrM : Sp := fun vs H Q _ => ∃ (p : Addr) (S : List Nat) (m : Nat), vs = [.ref p, iV m] ∧ LsN H p S ∧ RR S ∧ (∀ s ∈ S, s < 2 ^ m) ∧ m ≤ 12 ∧ S.length ≤ 24 ∧ ∀ r H', Ext H H' → H r = none → LsN H' r (crAll S m) → Q (.ref r) H'
def TabIn (H : Hp) (T : Addr) (names : List Str) (rows : List (List Str)) : Prop := ∃ a b, H T = some (.tup [.ref a, .ref b]) ∧ LsS H a names ∧ RowsAt H b rows
def TabF (H0 H : Hp) (T : Addr) (names : List Str) (rows : List (List Str)) : Prop := ∃ a b, H T = some (.tup [.ref a, .ref b]) ∧ LsS H a names ∧ H0 a = none ∧ RowsY H0 H b rows ∧ H0 b = none
theorem TabIn.ext {H H' : Hp} {T : Addr} {names : List Str} {rows : List (List Str)} (h : TabIn H T names rows) (e : Ext H H') : TabIn H' T names rows := by
  obtain ⟨a, b, h1, h2, h3⟩ := h
  exact ⟨a, b, e _ _ h1, e _ _ h2, h3.ext e⟩
theorem TabF.ext {H0 H H' : Hp} {T : Addr} {names : List Str} {rows : List (List Str)} (h : TabF H0 H T names rows) (e : Ext H H') : TabF H0 H' T names rows := by
  obtain ⟨a, b, h1, h2, h3, h4, h5⟩ := h
  exact ⟨a, b, e _ _ h1, e _ _ h2, h3, h4.ext e, h5⟩
theorem TabF.tin {H0 H : Hp} {T : Addr} {names : List Str} {rows : List (List Str)} (h : TabF H0 H T names rows) : TabIn H T names rows := by
  obtain ⟨a, b, h1, h2, h3, h4, h5⟩ := h
  exact ⟨a, b, h1, h2, h4.rows⟩
theorem TabF.down {H0 H1 H : Hp} {T : Addr} {names : List Str} {rows : List (List Str)} (h : TabF H1 H T names rows) (e : Ext H0 H1) : TabF H0 H T names rows := by
  obtain ⟨a, b, h1, h2, h3, ⟨as, h4, h6⟩, h5⟩ := h
  exact ⟨a, b, h1, h2, e.none h3, ⟨as, h4, Paired.mapP h6 fun a r z => ⟨z.1, e.none z.2.1, z.2.2⟩⟩, e.none h5⟩
def spTabF : Sp := fun vs H Q _ => ∃ (pn pm : Addr) (names : List Str) (ms : List Nat), vs = [.ref pn, .ref pm] ∧ LsS H pn names ∧ names.length ≤ 12 ∧ LsN H pm ms ∧ ms.length ≤ 24 ∧ ∀ (T : Addr) (M : List Nat) (H' : Hp), Ext H H' → H T = none → TabF H H' T names (M.map (rowM names)) → M.Perm (red ms) → M.Pairwise (fun a b => b ≤ a) → Q (.ref T) H'
def spStepM : Sp := fun vs H Q _ => ∃ (T : Addr) (names : List Str) (rows : List (List Str)), vs = [.ref T] ∧ TabIn H T names rows ∧ rows.length ≤ 24 ∧ ∀ (r : Addr) (M : List Nat) (H' : Hp), Ext H H' → H r = none → LsN H' r M → M.Perm (red (rows.map (maskF names))) → M.Pairwise (fun a b => b ≤ a) → Q (.ref r) H'
def spCross : Sp := fun vs H Q _ => ∃ (T : Addr) (names : List Str) (rows : List (List Str)), vs = [.ref T] ∧ TabIn H T names rows ∧ names.length ≤ 12 ∧ rows.length ≤ 24 ∧ ∀ (T' : Addr) (S M : List Nat) (H' : Hp), Ext H H' → H T' = none → TabF H H' T' names (M.map (rowM names)) → S.Perm (red (rows.map (maskF names))) → M.Perm (red (crAll S names.length)) → M.Pairwise (fun a b => b ≤ a) → Q (.ref T') H'
def spTies : Sp := fun vs H Q _ => ∃ (p : Addr) (net : List Tr), vs = [.ref p] ∧ NetAt H p net ∧ net.length ≤ 12 ∧ ∀ r H', Ext H H' → H r = none → LsS H' r (net.map (·.1)) → Q (.ref r) H'
def metF (net : List Tr) (x : Str) : List Str := (net.filter fun t => decide (t.2.1 = x) != decide (t.2.2 = x)).map (·.1)
def spMet : Sp := fun vs H Q _ => ∃ (p : Addr) (net : List Tr) (x : Str), vs = [.ref p, .str x] ∧ NetAt H p net ∧ net.length ≤ 12 ∧ ∀ r H', Ext H H' → H r = none → LsS H' r (metF net x) → Q (.ref r) H'
def spTable : Sp := fun vs H Q _ => ∃ (p : Addr) (net : List Tr), vs = [.ref p] ∧ NetAt H p net ∧ net.length ≤ 12 ∧ ∀ (T : Addr) (ps : List Str) (S M : List Nat) (H' : Hp), Ext H H' → H T = none → TabF H H' T (net.map (·.1)) (M.map (rowM (net.map (·.1)))) → PtsOk net ps → Rise ps → S.Perm (red (ps.map fun x => maskF (net.map (·.1)) (metF net x))) → M.Perm (red (crAll S net.length)) → M.Pairwise (fun a b => b ≤ a) → Q (.ref T) H'
section
variable {P : Program} {w : World} {K : PySem.W.Frag} {mg : Str → Option Value} {base : Heap} {f f1 f2 f3 f4 : Addr} {fd fd1 fd2 fd3 fd4 : FuncData}
abbrev crN : List Str := ["steps", "width", "leads", "told", "place", "bit"]
theorem scCrM : FnScope crN ["steps", "width"] (defScope sCrM) := ⟨rfl, rfl, rfl, by decide +kernel, rfl, by decide +kernel, by decide +kernel⟩
set_option maxHeartbeats 4000000 in
theorem ok_crM (F : Fun K "crossed_masks" "crossed_masks" sCrM f fd) (G : FnOk P w K mg base CX0 1 f1 fd1 ["mask"] spLead) (bG : Binds K fd1 ["mask"] []) (kG : PySem.W.keepIn K (.ref f1) = true) (mG : mg "lead_of" = some (.ref f1)) (msu : mg "sum" = none) (mr : mg "range" = none) : FnOk P w K mg base CX0 2 f fd ["steps", "width"] spCrM := by
  refine F.ok scCrM (fun vs H Q E h => ?_) (fun cdv A outer s H vs Q E hr h => ?_)
  · obtain ⟨p, S, m, rfl, _⟩ := h
    rfl
  obtain ⟨p, S, m, rfl, hp, rr, lt, m12, lS, q⟩ := h
  refine ⟨_, pss_cons (ps_set (i := 2) scCrM.nd rfl (Or.inl rfl) (pe_callB (call_sumI rfl) rfl msu boot_sum' (pa_cons (pe_lc (N := crN) (sc := defScope sCrM) (N' := ["step"]) (sub := [none]) rfl rfl (CmpOk.of (by decide +kernel)) rfl (pi_list (pv 0))
      (fun C s H fp => ⟨pg_name (i := 0) (by show (["step"] : List Str).Nodup; decide) rfl (Or.inl rfl), pts_nil, pe_call G hr rfl mG kG bG .nil pass0 (pa_cons (pv 0) pa_nil)⟩)) pa_nil)))
    (pss_cons (ps_set (i := 3) scCrM.nd rfl (Or.inl rfl) (pe_lst pa_nil))
    (pss_cons (ps_for PassesOwn.never rfl (pi_range1 rfl mr (pa_cons (pv 1) pa_nil)) (pg_name (i := 4) scCrM.nd rfl (Or.inl rfl))
      (pss_cons (ps_set (i := 5) scCrM.nd rfl (Or.inr rfl) (pe_op op_shl pe_int (pv 4)))
      (pss_one (ps_if (pt_cmpR op_eq (pe_op op_and (pv 2) (pv 5)) pe_int (nomark _))
        (pss_one (ps_expr (pe_bm PySem.F.plainAttrs_list PySem.F.slot_list_append PySem.F.type_list_append mt_append (pv 3) (pa_cons
          (pe_op op_add (pv 5) (pe_callB (call_sumI rfl) rfl msu boot_sum' (pa_cons (pe_lc (N := crN) (sc := defScope sCrM) (N' := ["step", "bit"]) (sub := [none, some 5]) rfl rfl (CmpOk.of (by decide +kernel)) rfl (pi_list (pv 0))
            (fun C s H fp => ⟨pg_name (i := 0) (by show (["step", "bit"] : List Str).Nodup; decide) rfl (Or.inl rfl), pts_one (pt_cmpR op_ne (pe_op op_and (pv 0) (pv 1)) pe_int (nomark _)), pe_call G hr rfl mG kG bG .nil pass0 (pa_cons (pv 0) pa_nil)⟩)) pa_nil))) pa_nil))))
        pss_nil))))
    (pss_one (ps_ret (pv 3))))), ?_⟩
  have l24 : ∀ s ∈ S, s < 2 ^ 24 := fun s hs => Nat.lt_of_lt_of_le (lt s hs) (Nat.pow_le_pow_right (by decide) (by omega))
  refine ⟨_, rfl, p, rfl, ⟨_, SqL.of hp⟩, ?_⟩
  refine turns_list (xs := S.map iV) (fun j ys H2 => H2 = H ∧ ys = ((S.take j).map fun s : Nat => 2 ^ s.log2).map iV) ⟨rfl, rfl⟩ (fun j ys H2 _ h => by rw [h.1]; exact SqL.of hp) ?_ ?_
  · rintro j v ys H2 hx ⟨rfl, rfl⟩
    obtain ⟨s, rfl, hs⟩ := iv_get hx
    have hj := at_lt hs
    have sm := List.mem_of_getElem? hs
    refine ⟨Sle.set _ (Sle.refl _) (fun u z => by cases z), iteT (B := False) ⟨_, rfl, s, rfl, rr.nz s sm, l24 s sm, ?_, nxt (at_lt hx) ⟨rfl, ?_⟩⟩⟩
    · rw [List.length_map, List.length_map, List.length_take]; exact small1000 (by omega)
    · rw [take_snoc hs, List.map_append, List.map_append]; rfl
  rintro ys H2 ⟨rfl, rfl⟩ l1 hl1
  rw [List.length_map, List.take_of_length_le (Nat.le_refl _)]
  have n1 := Ext.new hl1 (.lst ((S.map fun s : Nat => 2 ^ s.log2).map iV))
  refine ⟨l1, (S.map fun s : Nat => 2 ^ s.log2).map (fun n : Nat => (n : Int)), rfl, SqL.of (by rw [upd_same, iv_ints]), ?_⟩
  rw [sum_cast]
  refine ⟨Nat.zero_le _, fun to to1 => ?_⟩
  have to0 := n1.none to1
  have n2 := n1.trans (Ext.new to1 (.lst []))
  refine ⟨_, rfl, (m : Int), rfl, by omega, by omega, ?_⟩
  refine for_range (lo := 0) (n := ((m : Int)).toNat) (fun i σ H' => ∃ (x4 x5 : Option V), σ = [some (.ref p), some (iV m), some (iV (S.map fun s : Nat => 2 ^ s.log2).sum), some (.ref to), x4, x5] ∧ Ext H2 H' ∧ LsN H' to (((List.range i).filter fun p => !decide (isLd S p)).map (crM S))) ⟨none, none, rfl, n2, upd_same⟩ ?_ ?_
  · rintro i σ H' hi ⟨x4, x5, rfl, e, ht⟩
    have hi' : i < m := by omega
    refine ⟨_, rfl, _, _, rfl, rfl, ⟨by omega, by omega, by decide⟩, ?_⟩
    have bv : (fun i j : Int => V.int (i * 2 ^ j.toNat)) 1 (0 + (i : Int)) = iV (2 ^ i) := by
      show V.int (1 * 2 ^ (0 + (i : Int)).toNat) = _
      rw [show (0 + (i : Int)) = (i : Nat) by omega, shl_nat]
    rw [bv]
    have sn : ((List.range (i + 1)).filter fun p => !decide (isLd S p)).map (crM S) = ((List.range i).filter fun p => !decide (isLd S p)).map (crM S) ++ (if isLd S i then [] else [crM S i]) := by
      rw [List.range_succ, List.filter_append, List.map_append]
      congr 1
      by_cases b : isLd S i
      · simp [b]
      · simp [b]
    have lb := leads_bit rr i
    refine ⟨_, rfl, _, rfl, _, _, rfl, rfl, rfl, _, rfl, ?_⟩
    refine ite2 (fun c => ?_) (fun c => ?_)
    · have nl : ¬ isLd S i := fun z => by
        rw [decide_eq_true z] at lb
        have ne := (and_pow _ i).mpr lb
        have : Builtin.bitAnd (((S.map fun s : Nat => 2 ^ s.log2).sum : Nat) : Int) ((2 ^ i : Nat) : Int) = 0 := by simpa using c
        rw [band_nat] at this
        omega
      refine ⟨_, rfl, .inl ⟨rfl, _, SqL.of ht⟩, _, rfl, ?_⟩
      refine ⟨_, rfl, p, rfl, ⟨_, SqL.of (e _ _ hp)⟩, ?_⟩
      refine turns_list (xs := S.map iV) (fun j ys H3 => H3 = H' ∧ ys = (((S.take j).filter fun s : Nat => s.testBit i).map fun s : Nat => 2 ^ s.log2).map iV) ⟨rfl, rfl⟩ (fun j ys H3 _ h => by rw [h.1]; exact SqL.of (e _ _ hp)) ?_ ?_
      · rintro j v ys H3 hx ⟨rfl, rfl⟩
        obtain ⟨s, rfl, hs⟩ := iv_get hx
        have hj := at_lt hs
        have sm := List.mem_of_getElem? hs
        refine ⟨Sle.set _ (Sle.refl _) (fun u z => by cases z), _, rfl, _, rfl, _, _, rfl, rfl, rfl, _, rfl, ?_⟩
        have key : ((!decide (V.int (Builtin.bitAnd (s : Int) ((2 ^ i : Nat) : Int)) = V.int 0)) = true) ↔ s.testBit i = true := by
          rw [← and_pow s i, band_nat]
          simp
        refine ite2 (fun c3 => ?_) (fun c3 => ?_)
        · have b := key.mp c3
          refine ⟨_, rfl, s, rfl, rr.nz s sm, l24 s sm, ?_, nxt (at_lt hx) ⟨rfl, ?_⟩⟩
          · have := List.length_filter_le (fun s : Nat => s.testBit i) (S.take j)
            rw [List.length_take] at this
            rw [List.length_map, List.length_map]; exact small1000 (by omega)
          · rw [take_snoc hs, List.filter_append, List.map_append, List.map_append]
            simp [b]
        · have b : ¬ s.testBit i = true := fun z => c3 (key.mpr z)
          refine nxt (at_lt hx) ⟨rfl, ?_⟩
          rw [take_snoc hs, List.filter_append]
          simp [b]
      · rintro ys H3 ⟨rfl, rfl⟩ l2 hl2
        rw [List.length_map, List.take_of_length_le (Nat.le_refl _)]
        have n3 := Ext.new hl2 (.lst (((S.filter fun s : Nat => s.testBit i).map fun s : Nat => 2 ^ s.log2).map iV))
        refine ⟨l2, ((S.filter fun s : Nat => s.testBit i).map fun s : Nat => 2 ^ s.log2).map (fun n : Nat => (n : Int)), rfl, SqL.of (by rw [upd_same, iv_ints]), ?_⟩
        rw [sum_cast]
        refine ⟨_, _, rfl, rfl, to, _, _, rfl, rfl, n3 _ _ ht, ?_, ?_⟩
        · have := List.length_filter_le (fun p => !decide (isLd S p)) (List.range i)
          rw [List.length_range] at this
          rw [List.length_map, List.length_map]; exact small1000 (by omega)
        · refine ⟨_, _, rfl, (e.trans n3).over to0 _, ?_⟩
          rw [sn, if_neg nl]
          unfold LsN
          rw [upd_same, List.map_append]
          rfl
    · have il : isLd S i := Classical.byContradiction fun z => by
        rw [decide_eq_false z] at lb
        refine c ?_
        have : (S.map fun s : Nat => 2 ^ s.log2).sum &&& 2 ^ i = 0 := Classical.byContradiction fun y => by
          have := (and_pow _ i).mp y
          rw [lb] at this; cases this
        show decide (V.int (Builtin.bitAnd (((S.map fun s : Nat => 2 ^ s.log2).sum : Nat) : Int) ((2 ^ i : Nat) : Int)) = V.int 0) = true
        rw [band_nat, this]; rfl
      refine ⟨_, _, rfl, e, ?_⟩
      rw [sn, if_pos il, List.append_nil]
      exact ht
  · rintro σ H' ⟨x4, x5, rfl, e, ht⟩
    rw [Int.toNat_natCast] at ht
    exact ⟨_, rfl, q to _ e to0 ht⟩
theorem scTabF : FnScope ["names", "masks"] ["names", "masks"] (defScope sTabF) := ⟨rfl, rfl, rfl, by decide +kernel, rfl, by decide +kernel, by decide +kernel⟩
set_option maxHeartbeats 4000000 in
theorem ok_tabF (F : Fun K "table_from" "table_from" sTabF f fd) (G1 : FnOk P w K mg base CX0 1 f1 fd1 ["names", "mask"] spRowOf) (bG1 : Binds K fd1 ["names", "mask"] []) (kG1 : PySem.W.keepIn K (.ref f1) = true) (mG1 : mg "row_of" = some (.ref f1))
    (G2 : FnOk P w K mg base CX0 2 f2 fd2 ["masks"] spRedu) (bG2 : Binds K fd2 ["masks"] []) (kG2 : PySem.W.keepIn K (.ref f2) = true) (mG2 : mg "reduced" = some (.ref f2)) (mL : mg "list" = none) : FnOk P w K mg base CX0 3 f fd ["names", "masks"] spTabF := by
  refine F.ok scTabF (fun vs H Q E h => ?_) (fun cdv A outer s H vs Q E hr h => ?_)
  · obtain ⟨pn, pm, names, ms, rfl, _⟩ := h
    rfl
  obtain ⟨pn, pm, names, ms, rfl, hn, ln, hm, lm, q⟩ := h
  have hr1 := hr.mono (j := 1) (by decide)
  refine ⟨_, pss_one (ps_ret (pe_tup (pa_cons (pe_callTy call_list_of rfl mL boot_list' (pa_cons (pv 0) pa_nil)) (pa_cons
    (pe_lc (N := ["names", "masks"]) (sc := defScope sTabF) (N' := ["mask", "names"]) (sub := [none, some 0]) rfl rfl (CmpOk.of (by decide +kernel)) rfl (pi_list (pe_call G2 hr rfl mG2 kG2 bG2 .nil pass0 (pa_cons (pv 1) pa_nil)))
      (fun C s H fp => ⟨pg_name (i := 0) (by show (["mask", "names"] : List Str).Nodup; decide) rfl (Or.inl rfl), pts_nil, pe_call G1 hr1 rfl mG1 kG1 bG1 .nil pass0 (pa_cons (pv 1) (pa_cons (pv 0) pa_nil))⟩)) pa_nil)))), ?_⟩
  refine ⟨_, rfl, pn, _, rfl, .inl (SqL.of hn), fun l1 hl1 => ?_⟩
  have n1 := Ext.new hl1 (.lst (names.map V.str))
  refine ⟨_, rfl, pm, ms, rfl, n1 _ _ hm, lm, fun r M H1 e1 r0 hM pM dM => ?_⟩
  have E1 := n1.trans e1
  have lM : M.length ≤ 24 := by rw [pM.length_eq]; exact Nat.le_trans (red_le ms) lm
  refine ⟨r, rfl, ⟨_, SqL.of hM⟩, ?_⟩
  refine turns_list (xs := M.map iV) (fun j ys H2 => Ext H1 H2 ∧ ∃ as, ys = as.map V.ref ∧ Paired (fun a r => LsS H2 a r ∧ H a = none) as ((M.take j).map (rowM names))) ⟨Ext.refl _, [], rfl, .nil⟩ (fun j ys H2 _ h => SqL.of (h.1 _ _ hM)) ?_ ?_
  · rintro j v ys H2 hx ⟨e2, as, rfl, pr⟩
    obtain ⟨x, rfl, hx'⟩ := iv_get hx
    have hj := at_lt hx'
    have la : as.length = _ := pr.length
    rw [List.length_map, List.length_take] at la
    refine ⟨Sle.set _ (Sle.refl _) (fun u z => by cases z), iteT (B := False) ⟨_, rfl, _, rfl, pn, names, x, rfl, (E1.trans e2) _ _ hn, ln, fun r3 H3 e3 r30 h3 => ⟨?_, nxt (at_lt hx) ⟨e2.trans e3, as ++ [r3], by rw [List.map_append]; rfl, ?_⟩⟩⟩⟩
    · rw [List.length_map]; exact small1000 (by omega)
    · rw [take_snoc hx', List.map_append]
      exact Paired.snoc (Paired.mapP pr fun a t z => ⟨e3 _ _ z.1, z.2⟩) ⟨h3, (E1.trans e2).none r30⟩
  · rintro ys H2 ⟨e2, as, rfl, pr⟩ b hb
    rw [List.length_map, List.take_of_length_le (Nat.le_refl _)] at pr
    have E2 := E1.trans e2
    have Xb := Ext.new hb (.lst (as.map V.ref))
    refine ⟨(by show 2 ≤ sizeLine; decide), fun T hT => ?_⟩
    have XT := Xb.trans (Ext.new hT (.tup [V.ref l1, V.ref b]))
    refine q T M _ (E2.trans XT) ((E2.trans Xb).none hT) ⟨l1, b, upd_same, XT _ _ (e2 _ _ (e1 _ _ upd_same)), hl1, ⟨as, (Ext.new hT _) _ _ upd_same, Paired.mapP pr fun a t z => ⟨XT _ _ z.1, z.2, ne_of_none z.1 hb⟩⟩, E2.none hb⟩ pM dM
theorem scStepM : FnScope ["table", "names", "rows"] ["table"] (defScope sStepM) := ⟨rfl, rfl, rfl, by decide +kernel, rfl, by decide +kernel, by decide +kernel⟩
set_option maxHeartbeats 4000000 in
theorem ok_stepM (F : Fun K "step_masks" "step_masks" sStepM f fd) (G1 : FnOk P w K mg base CX0 1 f1 fd1 ["names", "row"] spMask) (bG1 : Binds K fd1 ["names", "row"] []) (kG1 : PySem.W.keepIn K (.ref f1) = true) (mG1 : mg "mask_of" = some (.ref f1))
    (G2 : FnOk P w K mg base CX0 2 f2 fd2 ["masks"] spRedu) (bG2 : Binds K fd2 ["masks"] []) (kG2 : PySem.W.keepIn K (.ref f2) = true) (mG2 : mg "reduced" = some (.ref f2)) : FnOk P w K mg base CX0 3 f fd ["table"] spStepM := by
  refine F.ok scStepM (fun vs H Q E h => ?_) (fun cdv A outer s H vs Q E hr h => ?_)
  · obtain ⟨T, names, rows, rfl, _⟩ := h
    rfl
  obtain ⟨T, names, rows, rfl, ⟨a, b, hT, ha, ⟨as, hb, pr⟩⟩, lr, q⟩ := h
  have hr1 := hr.mono (j := 1) (by decide)
  refine ⟨_, pss_cons (ps_asg (pv 0) (pg_tup rfl (pgs_cons (pg_name (i := 1) scStepM.nd rfl (Or.inr rfl)) (pgs_cons (pg_name (i := 2) scStepM.nd rfl (Or.inl rfl)) pgs_nil))))
    (pss_one (ps_ret (pe_call G2 hr rfl mG2 kG2 bG2 .nil pass0 (pa_cons (pe_lc (N := ["table", "names", "rows"]) (sc := defScope sStepM) (N' := ["row", "names"]) (sub := [none, some 1]) rfl rfl (CmpOk.of (by decide +kernel)) rfl (pi_list (pv 2))
      (fun C s H fp => ⟨pg_name (i := 0) (by show (["row", "names"] : List Str).Nodup; decide) rfl (Or.inl rfl), pts_nil, pe_call G1 hr1 rfl mG1 kG1 bG1 .nil pass0 (pa_cons (pv 1) (pa_cons (pv 0) pa_nil))⟩)) pa_nil)))), ?_⟩
  have la : as.length = rows.length := pr.length
  refine ⟨_, rfl, T, _, rfl, SqT.of hT, rfl, _, _, rfl, _, _, rfl, rfl, ?_⟩
  refine ⟨_, rfl, b, rfl, ⟨_, SqL.of hb⟩, ?_⟩
  refine turns_list (xs := as.map V.ref) (fun j ys H2 => H2 = H ∧ ys = ((rows.take j).map (maskF names)).map iV) ⟨rfl, rfl⟩ (fun j ys H2 _ h => by rw [h.1]; exact SqL.of hb) ?_ ?_
  · rintro j v ys H2 hx ⟨rfl, rfl⟩
    obtain ⟨c, rfl, hc⟩ := ref_get hx
    obtain ⟨rw1, hrw, hc1⟩ := paired_get pr hc
    have hj := at_lt hrw
    refine ⟨Sle.set _ (Sle.refl _) (fun u z => by cases z), iteT (B := False) ⟨_, rfl, _, rfl, a, c, names, rw1, rfl, ha, hc1, ?_, nxt (at_lt hx) ⟨rfl, ?_⟩⟩⟩
    · rw [List.length_map, List.length_map, List.length_take]; exact small1000 (by omega)
    · rw [take_snoc hrw, List.map_append, List.map_append]; rfl
  · rintro ys H2 ⟨rfl, rfl⟩ l hl
    rw [List.length_map, la, List.take_of_length_le (Nat.le_refl _)]
    have n1 := Ext.new hl (.lst ((rows.map (maskF names)).map iV))
    refine ⟨l, _, rfl, upd_same, by rw [List.length_map]; exact lr, fun r M H1 e1 r0 hM pM dM => ?_⟩
    exact q r M H1 (n1.trans e1) (n1.none r0) hM pM dM
theorem scCross : FnScope ["table", "names"] ["table"] (defScope sCross) := ⟨rfl, rfl, rfl, by decide +kernel, rfl, by decide +kernel, by decide +kernel⟩
set_option maxHeartbeats 4000000 in
theorem ok_cross (F : Fun K "crossed" "crossed" sCross f fd) (G1 : FnOk P w K mg base CX0 3 f1 fd1 ["names", "masks"] spTabF) (bG1 : Binds K fd1 ["names", "masks"] []) (kG1 : PySem.W.keepIn K (.ref f1) = true) (mG1 : mg "table_from" = some (.ref f1))
    (G2 : FnOk P w K mg base CX0 2 f2 fd2 ["steps", "width"] spCrM) (bG2 : Binds K fd2 ["steps", "width"] []) (kG2 : PySem.W.keepIn K (.ref f2) = true) (mG2 : mg "crossed_masks" = some (.ref f2))
    (G3 : FnOk P w K mg base CX0 3 f3 fd3 ["table"] spStepM) (bG3 : Binds K fd3 ["table"] []) (kG3 : PySem.W.keepIn K (.ref f3) = true) (mG3 : mg "step_masks" = some (.ref f3)) (ml : mg "len" = none) : FnOk P w K mg base CX0 4 f fd ["table"] spCross := by
  refine F.ok scCross (fun vs H Q E h => ?_) (fun cdv A outer s H vs Q E hr h => ?_)
  · obtain ⟨T, names, rows, rfl, _⟩ := h
    rfl
  obtain ⟨T, names, rows, rfl, ht, ln, lr, q⟩ := h
  have hr2 := hr.mono (j := 2) (by decide)
  refine ⟨_, pss_cons (ps_set (i := 1) scCross.nd rfl (Or.inl rfl) (pe_ix ix_tup (pv 0) pe_int (fun _ _ => rfl)))
    (pss_one (ps_ret (pe_call G1 hr rfl mG1 kG1 bG1 .nil pass0 (pa_cons (pv 1) (pa_cons (pe_call G2 hr2 rfl mG2 kG2 bG2 .nil pass0 (pa_cons (pe_call G3 hr rfl mG3 kG3 bG3 .nil pass0 (pa_cons (pv 0) pa_nil)) (pa_cons (pe_callB call_len_seq rfl ml PySem.boot_len (pa_cons (pv 1) pa_nil)) pa_nil))) pa_nil))))), ?_⟩
  obtain ⟨a, b, hT, ha, hb⟩ := id ht
  refine ⟨_, rfl, T, _, _, _, rfl, rfl, SqT.of hT, (by exact atI_nat (j := 0) rfl), ?_⟩
  refine ⟨_, rfl, _, rfl, T, names, rows, rfl, ht, lr, fun r S H1 e1 r0 hS pS dS => ?_⟩
  have rrS : RR S := (red_rr _).perm pS
  have ltS : ∀ s ∈ S, s < 2 ^ names.length := fun s hs => red_lt (fun x hx => by
    obtain ⟨rw1, _, rfl⟩ := List.mem_map.mp hx
    exact maskF_lt names rw1) s (pS.mem_iff.mp hs)
  have lS : S.length ≤ 24 := by
    have := red_le (rows.map (maskF names))
    rw [List.length_map] at this
    rw [pS.length_eq]; omega
  refine ⟨_, rfl, a, _, rfl, .inl (SqL.of (e1 _ _ ha)), r, S, names.length, (by rw [List.length_map]; rfl), hS, rrS, ltS, ln, lS, fun r2 H2 e2 r20 h2 => ?_⟩
  have lc : (crAll S names.length).length ≤ 24 := by
    unfold crAll
    rw [List.length_map]
    have := List.length_filter_le (fun p => !decide (isLd S p)) (List.range names.length)
    rw [List.length_range] at this
    omega
  have E2 := e1.trans e2
  refine ⟨a, r2, names, _, rfl, E2 _ _ ha, ln, h2, lc, fun T' M H3 e3 t0 tf pM dM => ?_⟩
  exact q T' S M H3 (E2.trans e3) (E2.none t0) (tf.down E2) pS pM dM
end
end My
namespace My
open PySem L2
theorem metF_snoc (net : List Tr) (t : Tr) (x : Str) : metF (net ++ [t]) x = metF net x ++ (if (decide (t.2.1 = x) != decide (t.2.2 = x)) = true then [t.1] else []) := by
  unfold metF
  rw [List.filter_append, List.map_append]
  congr 1
  by_cases b : (decide (t.2.1 = x) != decide (t.2.2 = x)) = true
  · rw [if_pos b, List.filter_cons, if_pos b]; rfl
  · rw [if_neg b, List.filter_cons, if_neg b]; rfl
theorem metF_len (net : List Tr) (x : Str) : (metF net x).length ≤ net.length := by
  unfold metF
  rw [List.length_map]; exact List.length_filter_le _ _
section
variable {P : Program} {w : World} {K : PySem.W.Frag} {mg : Str → Option Value} {base : Heap} {f f1 f2 f3 f4 : Addr} {fd fd1 fd2 fd3 fd4 : FuncData}
theorem scTies : FnScope ["net"] ["net"] (defScope sTies) := ⟨rfl, rfl, rfl, by decide +kernel, rfl, by decide +kernel, by decide +kernel⟩
abbrev tiN : List Str := ["tie", "one", "other"]
set_option maxHeartbeats 4000000 in
theorem ok_ties (F : Fun K "ties_of" "ties_of" sTies f fd) : FnOk P w K mg base CX0 1 f fd ["net"] spTies := by
  refine F.ok scTies (fun vs H Q E h => ?_) (fun cdv A outer s H vs Q E hr h => ?_)
  · obtain ⟨p, net, rfl, _⟩ := h
    rfl
  obtain ⟨p, net, rfl, ⟨as, hp, pr⟩, hl, q⟩ := h
  refine ⟨_, pss_one (ps_ret (pe_lc (N := ["net"]) (sc := defScope sTies) (N' := tiN) (sub := [none, none, none]) rfl rfl (CmpOk.of (by decide +kernel)) rfl (pi_list (pv 0))
    (fun C s H fp => ⟨(show PG _ _ (gTup K 3 _) from pg_tup rfl (pgs_cons (pg_name (i := 0) (by show tiN.Nodup; decide) rfl (Or.inl rfl)) (pgs_cons (pg_name (i := 1) (by show tiN.Nodup; decide) rfl (Or.inl rfl)) (pgs_cons (pg_name (i := 2) (by show tiN.Nodup; decide) rfl (Or.inl rfl)) pgs_nil)))), pts_nil, pv 0⟩))), ?_⟩
  refine ⟨_, rfl, p, rfl, ⟨_, SqL.of hp⟩, ?_⟩
  refine turns_net (fun t => t.1) hp pr hl (fun a t ha C B c => ?_) (fun r hr' => q r _ (Ext.new hr' _) hr' upd_same)
  refine ⟨a, _, rfl, SqT.of ha, rfl, _, _, rfl, _, _, rfl, _, _, rfl, rfl, ?_⟩
  exact ⟨Sle.set _ (Sle.set _ (Sle.set _ (Sle.refl _) (fun u z => by cases z)) (fun u z => by cases z)) (fun u z => by cases z), iteT (B := B H) ⟨_, rfl, c⟩⟩
theorem scMet : FnScope ["net", "point"] ["net", "point"] (defScope sMet) := ⟨rfl, rfl, rfl, by decide +kernel, rfl, by decide +kernel, by decide +kernel⟩
abbrev meN : List Str := ["tie", "one", "other", "point"]
set_option maxHeartbeats 4000000 in
theorem ok_met (F : Fun K "met_once" "met_once" sMet f fd) : FnOk P w K mg base CX0 1 f fd ["net", "point"] spMet := by
  refine F.ok scMet (fun vs H Q E h => ?_) (fun cdv A outer s H vs Q E hr h => ?_)
  · obtain ⟨p, net, x, rfl, _⟩ := h
    rfl
  obtain ⟨p, net, x, rfl, ⟨as, hp, pr⟩, hl, q⟩ := h
  refine ⟨_, pss_one (ps_ret (pe_lc (N := ["net", "point"]) (sc := defScope sMet) (N' := meN) (sub := [none, none, none, some 1]) rfl rfl (CmpOk.of (by decide +kernel)) rfl (pi_list (pv 0))
    (fun C s H fp => ⟨(show PG _ _ (gTup K 3 _) from pg_tup rfl (pgs_cons (pg_name (i := 0) (by show meN.Nodup; decide) rfl (Or.inl rfl)) (pgs_cons (pg_name (i := 1) (by show meN.Nodup; decide) rfl (Or.inl rfl)) (pgs_cons (pg_name (i := 2) (by show meN.Nodup; decide) rfl (Or.inl rfl)) pgs_nil)))),
      pts_one (pt_cmpR op_ne (pe_cmpR op_eq (pv 1) (pv 3) (nomark _)) (pe_cmpR op_eq (pv 2) (pv 3) (nomark _)) (nomark _)), pv 0⟩))), ?_⟩
  have lA : as.length = net.length := pr.length
  refine ⟨_, rfl, p, rfl, ⟨_, SqL.of hp⟩, ?_⟩
  refine turns_list (xs := as.map V.ref) (fun j ys H2 => H2 = H ∧ ys = (metF (net.take j) x).map V.str) ⟨rfl, rfl⟩ (fun j ys H2 _ h => by rw [h.1]; exact SqL.of hp) ?_ ?_
  · rintro j v ys H2 hx ⟨rfl, rfl⟩
    obtain ⟨a, t, rfl, ht, ha⟩ := net_get pr hx
    have hj := at_lt ht
    refine ⟨a, _, rfl, SqT.of ha, rfl, _, _, rfl, _, _, rfl, _, _, rfl, rfl, ?_⟩
    refine ⟨Sle.set _ (Sle.set _ (Sle.set _ (Sle.refl _) (fun u z => by cases z)) (fun u z => by cases z)) (fun u z => by cases z), ?_⟩
    refine ⟨_, rfl, _, rfl, rfl, _, rfl, _, rfl, rfl, rfl, _, rfl, ?_⟩
    have key : ((!decide (V.bl (decide (V.str t.2.1 = V.str x)) = V.bl (decide (V.str t.2.2 = V.str x)))) = true) ↔ (decide (t.2.1 = x) != decide (t.2.2 = x)) = true := by
      by_cases a : t.2.1 = x <;> by_cases b : t.2.2 = x <;> simp [a, b]
    have sz := metF_len (net.take j) x
    rw [List.length_take] at sz
    refine ite2 (fun c => ?_) (fun c => ?_)
    · have b := key.mp c
      refine ⟨_, rfl, by rw [List.length_map]; exact small1000 (by omega), nxt (at_lt hx) ⟨rfl, ?_⟩⟩
      rw [take_snoc ht, metF_snoc, if_pos b, List.map_append]; rfl
    · have b : ¬ (decide (t.2.1 = x) != decide (t.2.2 = x)) = true := fun z => c (key.mpr z)
      refine nxt (at_lt hx) ⟨rfl, ?_⟩
      rw [take_snoc ht, metF_snoc, if_neg b, List.append_nil]
  · rintro ys H2 ⟨rfl, rfl⟩ r hr'
    rw [List.length_map, lA, List.take_of_length_le (Nat.le_refl _)]
    exact q r _ (Ext.new hr' _) hr' upd_same
theorem scTable : FnScope ["net"] ["net"] (defScope sTable) := ⟨rfl, rfl, rfl, by decide +kernel, rfl, by decide +kernel, by decide +kernel⟩
set_option maxHeartbeats 4000000 in
theorem ok_table (F : Fun K "table_of" "table_of" sTable f fd) (G1 : FnOk P w K mg base CX0 4 f1 fd1 ["table"] spCross) (bG1 : Binds K fd1 ["table"] []) (kG1 : PySem.W.keepIn K (.ref f1) = true) (mG1 : mg "crossed" = some (.ref f1))
    (G2 : FnOk P w K mg base CX0 1 f2 fd2 ["net"] spTies) (bG2 : Binds K fd2 ["net"] []) (kG2 : PySem.W.keepIn K (.ref f2) = true) (mG2 : mg "ties_of" = some (.ref f2))
    (G3 : FnOk P w K mg base CX0 1 f3 fd3 ["net", "point"] spMet) (bG3 : Binds K fd3 ["net", "point"] []) (kG3 : PySem.W.keepIn K (.ref f3) = true) (mG3 : mg "met_once" = some (.ref f3))
    (G4 : FnOk P w K mg base CX0 1 f4 fd4 ["net"] spPoints) (bG4 : Binds K fd4 ["net"] []) (kG4 : PySem.W.keepIn K (.ref f4) = true) (mG4 : mg "points" = some (.ref f4)) : FnOk P w K mg base CX0 5 f fd ["net"] spTable := by
  refine F.ok scTable (fun vs H Q E h => ?_) (fun cdv A outer s H vs Q E hr h => ?_)
  · obtain ⟨p, net, rfl, _⟩ := h
    rfl
  obtain ⟨p, net, rfl, nt, hl, q⟩ := h
  have hr1 := hr.mono (j := 1) (by decide)
  refine ⟨_, pss_one (ps_ret (pe_call G1 hr rfl mG1 kG1 bG1 .nil pass0 (pa_cons (pe_tup (pa_cons (pe_call G2 hr1 rfl mG2 kG2 bG2 .nil pass0 (pa_cons (pv 0) pa_nil)) (pa_cons
    (pe_lc (N := ["net"]) (sc := defScope sTable) (N' := ["point", "net"]) (sub := [none, some 0]) rfl rfl (CmpOk.of (by decide +kernel)) rfl (pi_list (pe_call G4 hr1 rfl mG4 kG4 bG4 .nil pass0 (pa_cons (pv 0) pa_nil)))
      (fun C s H fp => ⟨pg_name (i := 0) (by show (["point", "net"] : List Str).Nodup; decide) rfl (Or.inl rfl), pts_nil, pe_call G3 hr1 rfl mG3 kG3 bG3 .nil pass0 (pa_cons (pv 1) (pa_cons (pv 0) pa_nil))⟩)) pa_nil))) pa_nil))), ?_⟩
  refine ⟨_, rfl, p, net, rfl, nt, hl, fun tl H1 e1 tl0 htl => ?_⟩
  refine ⟨_, rfl, p, net, rfl, nt.ext e1, hl, fun pl ps H2 e2 pl0 hpl pok psr lps => ⟨pl, rfl, ⟨_, SqL.of hpl⟩, ?_⟩⟩
  have E2 := e1.trans e2
  refine turns_list (xs := ps.map V.str) (fun j ys H3 => Ext H2 H3 ∧ ∃ as, ys = as.map V.ref ∧ Paired (LsS H3) as ((ps.take j).map (metF net))) ⟨Ext.refl _, [], rfl, .nil⟩ (fun j ys H3 _ h => SqL.of (h.1 _ _ hpl)) ?_ ?_
  · rintro j x ys H3 hx ⟨e3, as, rfl, pr⟩
    obtain ⟨y, rfl, hy⟩ := str_get hx
    have hj := at_lt hy
    have la : as.length = _ := pr.length
    rw [List.length_map, List.length_take] at la
    refine ⟨Sle.set _ (Sle.refl _) (fun u z => by cases z), iteT (B := False) ⟨_, rfl, _, rfl, p, net, y, rfl, nt.ext (E2.trans e3), hl, fun r4 H4 e4 r40 hr4 => ⟨?_, nxt (at_lt hx) ⟨e3.trans e4, as ++ [r4], by rw [List.map_append]; rfl, ?_⟩⟩⟩⟩
    · rw [List.length_map]; exact small1000 (by omega)
    · rw [take_snoc hy, List.map_append]
      exact Paired.snoc (Paired.mapP pr fun a t z => e4 _ _ z) hr4
  · rintro ys H3 ⟨e3, as, rfl, pr⟩ b hb
    rw [List.length_map, List.take_of_length_le (Nat.le_refl _)] at pr
    have Xb := Ext.new hb (.lst (as.map V.ref))
    refine ⟨(by show 2 ≤ sizeLine; decide), fun T hT => ?_⟩
    have XT := Xb.trans (Ext.new hT (.tup [V.ref tl, V.ref b]))
    have E3 := (E2.trans e3).trans XT
    refine ⟨T, net.map (fun t : Tr => t.1), ps.map (metF net), rfl, ⟨tl, b, upd_same, (e2.trans (e3.trans XT)) _ _ htl, ⟨as, (Ext.new hT _) _ _ upd_same, Paired.mapP pr fun a t z => XT _ _ z⟩⟩, by rw [List.length_map]; exact hl, by rw [List.length_map]; exact lps, fun T' S M H4 e4 t0 tf pS pM dM => ?_⟩
    rw [List.map_map] at pS
    rw [List.length_map] at pM
    exact q T' ps S M H4 (E3.trans e4) (E3.none t0) (tf.down E3) pok psr pS pM dM
end
end My
namespace My
open PySem L2
def ixF (ps : List Str) (x : Str) : Nat := ps.findIdx fun y => decide (y = x)
theorem ixF_at {ps : List Str} {x : Str} (h : x ∈ ps) : ps[ixF ps x]? = some x ∧ (∀ k, k < ixF ps x → ps[k]? ≠ some x) ∧ ixF ps x < ps.length := by
  have lt : ixF ps x < ps.length := List.findIdx_lt_length_of_exists ⟨x, h, by simp⟩
  have at_ : ps[ixF ps x] = x := by
    have := List.findIdx_getElem (w := lt)
    exact of_decide_eq_true this
  refine ⟨by rw [List.getElem?_eq_getElem lt, at_], fun k hk e => ?_, lt⟩
  have := List.not_of_lt_findIdx hk
  have kl : k < ps.length := Nat.lt_trans hk lt
  rw [List.getElem?_eq_getElem kl] at e
  have e' := Option.some.inj e
  simp [e'] at this
def vT (ps : List Str) (t : Tr) : Nat := 2 ^ ixF ps t.2.1 ^^^ 2 ^ ixF ps t.2.2
def vF (net : List Tr) (ps : List Str) (i : Nat) : Nat := match net[i]? with | some t => vT ps t | none => 0
theorem vF_at {net : List Tr} {ps : List Str} {i : Nat} {t : Tr} (h : net[i]? = some t) : vF net ps i = vT ps t := by unfold vF; rw [h]
def phi (M : Nat) (Z : Nat → Bool) (z : Nat) : Bool := xsum M fun q => z.testBit q && Z q
theorem phi_xor (M : Nat) (Z : Nat → Bool) (x y : Nat) : phi M Z (x ^^^ y) = (phi M Z x ^^ phi M Z y) := by
  unfold phi
  rw [← xsum_xor]
  refine xsum_congr fun j _ => ?_
  rw [Nat.testBit_xor]
  cases x.testBit j <;> cases y.testBit j <;> cases Z j <;> rfl
theorem phi_zero (M : Nat) (Z : Nat → Bool) : phi M Z 0 = false := by
  unfold phi
  rw [xsum_congr (g := fun _ => false) fun j _ => by simp, xsum_false]
theorem phi_pow {M p : Nat} {Z : Nat → Bool} (h : p < M) : phi M Z (2 ^ p) = Z p := by
  unfold phi
  rw [xsum_one (l := p) fun j _ ne => by rw [Nat.testBit_two_pow, decide_eq_false (fun z => ne z.symm)]; rfl, Nat.testBit_two_pow]
  simp [h]
theorem phi_bd (M : Nat) (Z : Nat → Bool) (V : Nat → Nat) : ∀ m y : Nat, phi M Z (bd V m y) = xsum m fun j => y.testBit j && phi M Z (V j)
  | 0, y => by show phi M Z 0 = false; exact phi_zero M Z
  | m + 1, y => by
    show phi M Z (bd V m y ^^^ _) = (xsum m _ ^^ (y.testBit m && phi M Z (V m)))
    rw [phi_xor, phi_bd M Z V m y]
    cases y.testBit m
    · simp [phi_zero]
    · simp
end My
namespace My
open PySem L2
def rowL (names : List Str) (x : Nat) : List Str := (List.range names.length).filterMap fun i => if x.testBit i = true then names[i]? else none
def spLRow : Sp := fun vs H Q _ => ∃ (pn : Addr) (names : List Str) (x : Nat), vs = [.ref pn, iV x] ∧ LsS H pn names ∧ names.length ≤ 12 ∧ ∀ r H', Ext H H' → H r = none → LsS H' r (rowL names x) → Q (.ref r) H'
section
variable {P : Program} {w : World} {K : PySem.W.Frag} {mg : Str → Option Value} {base : Heap} {f f1 f2 f3 f4 : Addr} {fd fd1 fd2 fd3 fd4 : FuncData}
theorem scLRow : FnScope ["_law_knots", "_law_number"] ["_law_knots", "_law_number"] (defScope sLRow) := ⟨rfl, rfl, rfl, by decide +kernel, rfl, by decide +kernel, by decide +kernel⟩
abbrev lwN : List Str := ["_law_k", "_law_point", "_law_number"]
set_option maxHeartbeats 4000000 in
theorem ok_lrow (F : Fun K "_law_row_of" "_law_row_of" sLRow f fd) (me : mg "enumerate" = none) : FnOk P w K mg base CX0 1 f fd ["_law_knots", "_law_number"] spLRow := by
  refine F.ok scLRow (fun vs H Q E h => ?_) (fun cdv A outer s H vs Q E hr h => ?_)
  · obtain ⟨pn, names, x, rfl, _⟩ := h
    rfl
  obtain ⟨pn, names, x, rfl, hn, ln, q⟩ := h
  refine ⟨_, pss_one (ps_ret (pe_lc (N := ["_law_knots", "_law_number"]) (sc := defScope sLRow) (N' := lwN) (sub := [none, none, some 1]) rfl rfl (CmpOk.of (by decide +kernel)) rfl (pi_enum rfl me (pa_cons (pv 0) pa_nil))
      (fun C s H fp => ⟨(show PG _ _ (gTup K 2 _) from pg_tup rfl (pgs_cons (pg_name (i := 0) (by show lwN.Nodup; decide) rfl (Or.inl rfl)) (pgs_cons (pg_name (i := 1) (by show lwN.Nodup; decide) rfl (Or.inl rfl)) pgs_nil))),
        pts_one (pt_cmpR op_eq (pe_op op_and (pe_op op_shr (pv 2) (pv 0)) pe_int) pe_int (nomark _)), pv 1⟩))), ?_⟩
  refine ⟨_, rfl, pn, _, rfl, SqL.of hn, ?_⟩
  rw [List.length_map]
  refine turns_tup (fun i ys H' => Ext H H' ∧ ys = ((List.range i).filterMap fun i => if x.testBit i = true then names[i]? else none).map V.str) ⟨Ext.refl _, rfl⟩ (fun i ys H' _ p => SqL.of (p.1 _ _ hn)) ?_ ?_
  · rintro i ys H' T hi ⟨e, rfl⟩ hT
    have gd : (names.map V.str).getD i .non = .str names[i] := by rw [List.getD_eq_getElem?_getD, List.getElem?_map, List.getElem?_eq_getElem hi]; rfl
    have e2 := e.trans (Ext.new hT (.tup [V.int (i : Nat), (names.map V.str).getD i .non]))
    refine ⟨T, _, rfl, SqT.of upd_same, rfl, _, _, rfl, _, _, rfl, rfl, ?_⟩
    refine ⟨Sle.set _ (Sle.set _ (Sle.refl _) (fun u z => by cases z)) (fun u z => by cases z), ?_⟩
    refine ⟨_, rfl, _, rfl, _, _, rfl, rfl, (by show (0 : Int) ≤ _; omega), _, _, rfl, rfl, rfl, _, rfl, ?_⟩
    have fm : ((List.range (i + 1)).filterMap fun i => if x.testBit i = true then names[i]? else none) = ((List.range i).filterMap fun i => if x.testBit i = true then names[i]? else none) ++ (if x.testBit i = true then [names[i]] else []) := by
      rw [List.range_succ, List.filterMap_append]
      congr 1
      by_cases b : x.testBit i = true
      · simp [b, List.getElem?_eq_getElem hi]
      · simp [b]
    have sz := List.length_filterMap_le (fun i => if x.testBit i = true then names[i]? else none) (List.range i)
    rw [List.length_range] at sz
    have key : (decide (V.int (Builtin.bitAnd ((x : Int) / 2 ^ (((i : Nat) : Int)).toNat) 1) = V.int 1) = true) ↔ x.testBit i = true := by
      rw [decide_eq_true_iff, V.int.injEq, Int.toNat_natCast, shr_one]
      by_cases b : x.testBit i = true
      · simp [b]
      · simp [b]
    refine ite2 (fun c => ?_) (fun c => ?_)
    · have b := key.mp c
      refine ⟨_, rfl, by rw [List.length_map]; exact small1000 (by omega), nxt hi ⟨e2, ?_⟩⟩
      rw [fm, if_pos b, List.map_append, gd]; rfl
    · have b : ¬ x.testBit i = true := fun z => c (key.mpr z)
      refine nxt hi ⟨e2, ?_⟩
      rw [fm, if_neg b, List.append_nil]
  · rintro ys H' ⟨e, rfl⟩ r hr'
    exact q r _ (e.trans (Ext.new hr' _)) (e.none hr') upd_same
end
end My
namespace My
open PySem L2
abbrev nmS (net : List Tr) : List Str := net.map fun t => t.1
theorem nm_at {net : List Tr} {i : Nat} {t : Tr} (h : net[i]? = some t) : (nmS net)[i]? = some t.1 := by rw [List.getElem?_map, h]; rfl
theorem nm_inj {net : List Tr} (nd : (nmS net).Nodup) {t u : Tr} (ht : t ∈ net) (hu : u ∈ net) (e : t.1 = u.1) : t = u := by
  induction net with
  | nil => cases ht
  | cons v r ih =>
    have nd' : (v.1 :: nmS r).Nodup := nd
    obtain ⟨n1, n2⟩ := List.nodup_cons.mp nd'
    rcases List.mem_cons.mp ht with a | a <;> rcases List.mem_cons.mp hu with b | b
    · rw [a, b]
    · subst a; exact absurd (List.mem_map.mpr ⟨u, b, e.symm⟩) n1
    · subst b; exact absurd (List.mem_map.mpr ⟨t, a, e⟩) n1
    · exact ih n2 a b
theorem met_mem {net : List Tr} (nd : (nmS net).Nodup) {t : Tr} (ht : t ∈ net) (x : Str) : t.1 ∈ metF net x ↔ (decide (t.2.1 = x) != decide (t.2.2 = x)) = true := by
  unfold metF
  rw [List.mem_map]
  constructor
  · rintro ⟨u, hu, e⟩
    obtain ⟨h1, h2⟩ := List.mem_filter.mp hu
    rw [← nm_inj nd h1 ht e]; exact h2
  · intro h
    exact ⟨t, List.mem_filter.mpr ⟨ht, h⟩, rfl⟩
theorem bx : ∀ a b : Bool, decide ((a != b) = true) = (a ^^ b) := fun a b => by cases a <;> cases b <;> rfl
theorem fm_congr {α β : Type} {f g : α → Option β} : ∀ {l : List α}, (∀ i ∈ l, f i = g i) → l.filterMap f = l.filterMap g
  | [], _ => rfl
  | a :: l, h => by rw [List.filterMap_cons, List.filterMap_cons, h a List.mem_cons_self, fm_congr fun i hi => h i (List.mem_cons_of_mem _ hi)]
def gT (net : List Tr) (g : Tr → Bool) (i : Nat) : Bool := match net[i]? with | some t => g t | none => false
def atX (x : Str) (t : Tr) : Bool := decide (t.2.1 = x) ^^ decide (t.2.2 = x)
theorem sm_bit {net : List Tr} (nd : (nmS net).Nodup) (x : Str) {j : Nat} (hj : j < net.length) : (maskF (nmS net) (metF net x)).testBit j = gT net (atX x) (net.length - 1 - j) := by
  rw [maskF_bit, List.length_map, decide_eq_true hj, Bool.true_and]
  have hi : net.length - 1 - j < net.length := by omega
  have ht := List.getElem?_eq_getElem hi
  unfold gT
  rw [nm_at ht, ht]
  have e : (∃ n, some net[net.length - 1 - j].1 = some n ∧ n ∈ metF net x) ↔ net[net.length - 1 - j].1 ∈ metF net x := ⟨fun ⟨n, h1, h2⟩ => by cases h1; exact h2, fun h => ⟨_, rfl, h⟩⟩
  exact (decide_eq_decide.mpr (e.trans (met_mem nd (List.getElem_mem hi) x))).trans (bx _ _)
theorem dot_sm {net : List Tr} (nd : (nmS net).Nodup) (x : Str) (z : Nat) : dot net.length z (maskF (nmS net) (metF net x)) = xsum net.length fun i => z.testBit (net.length - 1 - i) && gT net (atX x) i := by
  unfold dot
  rw [← xsum_rev (fun i => z.testBit (net.length - 1 - i) && gT net (atX x) i)]
  refine xsum_congr fun j hj => ?_
  rw [sm_bit nd x hj, show net.length - 1 - (net.length - 1 - j) = j by omega]
theorem pow_ix {ps : List Str} {x y : Str} (hx : x ∈ ps) (hy : y ∈ ps) : (2 ^ ixF ps x).testBit (ixF ps y) = decide (x = y) := by
  rw [Nat.testBit_two_pow]
  refine decide_eq_decide.mpr ⟨fun e => ?_, fun e => by rw [e]⟩
  have h1 := (ixF_at hx).1
  have h2 := (ixF_at hy).1
  rw [e, h2] at h1
  exact (Option.some.inj h1).symm
theorem bd_pt {net : List Tr} {ps : List Str} (hp : ∀ x, isPt net x → x ∈ ps) {x : Str} (hx : x ∈ ps) (y : Nat) : (bd (vF net ps) net.length y).testBit (ixF ps x) = xsum net.length fun i => y.testBit i && gT net (atX x) i := by
  rw [bd_bit]
  refine xsum_congr fun i hi => ?_
  have ht := List.getElem?_eq_getElem hi
  rw [vF_at ht]
  unfold gT vT atX
  rw [ht, Nat.testBit_xor, pow_ix (hp _ ⟨_, List.getElem_mem hi, .inl rfl⟩) hx, pow_ix (hp _ ⟨_, List.getElem_mem hi, .inr rfl⟩) hx]
theorem bd_zero_iff {net : List Tr} {ps : List Str} (hp : ∀ x, isPt net x → x ∈ ps) (y : Nat) : bd (vF net ps) net.length y = 0 ↔ ∀ x ∈ ps, (bd (vF net ps) net.length y).testBit (ixF ps x) = false := by
  constructor
  · intro e x _; rw [e]; simp
  · intro h
    refine Nat.eq_of_testBit_eq fun q => ?_
    rw [Nat.zero_testBit]
    by_cases c : ∃ x ∈ ps, ixF ps x = q
    · obtain ⟨x, hx, rfl⟩ := c
      exact h x hx
    · rw [bd_bit, xsum_congr (g := fun _ => false) fun i hi => ?_, xsum_false]
      have ht := List.getElem?_eq_getElem hi
      rw [vF_at ht]
      unfold vT
      rw [Nat.testBit_xor, Nat.testBit_two_pow, Nat.testBit_two_pow, decide_eq_false fun z => c ⟨_, hp _ ⟨_, List.getElem_mem hi, .inl rfl⟩, z⟩, decide_eq_false fun z => c ⟨_, hp _ ⟨_, List.getElem_mem hi, .inr rfl⟩, z⟩]
      simp
theorem link {net : List Tr} {ps ps' : List Str} (nd : (nmS net).Nodup) (pk : PtsOk net ps) (pk' : PtsOk net ps') {z : Nat} (hz : z < 2 ^ net.length) : (∀ x ∈ ps, dot net.length z (maskF (nmS net) (metF net x)) = false) ↔ bd (vF net ps') net.length (rv net.length z) = 0 := by
  have hp : ∀ x, isPt net x → x ∈ ps' := fun x hx => (pk'.2 x).mpr hx
  rw [bd_zero_iff hp]
  have e : ∀ x ∈ ps', dot net.length z (maskF (nmS net) (metF net x)) = (bd (vF net ps') net.length (rv net.length z)).testBit (ixF ps' x) := fun x hx => by
    rw [dot_sm nd, bd_pt hp hx]
    refine xsum_congr fun i hi => ?_
    rw [rv_bit, decide_eq_true hi, Bool.true_and]
  constructor
  · intro h x hx
    rw [← e x hx]
    exact h x ((pk.2 x).mpr ((pk'.2 x).mp hx))
  · intro h x hx
    have hx' := (pk'.2 x).mpr ((pk.2 x).mp hx)
    rw [e x hx']
    exact h x hx'
theorem rowL_rv {names : List Str} (x : Nat) : rowM names (rv names.length x) = rowL names x := by
  unfold rowM rowL
  have : ∀ i ∈ List.range names.length, (if (rv names.length x).testBit (names.length - 1 - i) = true then names[i]? else none) = (if x.testBit i = true then names[i]? else none) := fun i hi => by
    have hi' := List.mem_range.mp hi
    rw [rv_bit, decide_eq_true (by omega), Bool.true_and, show names.length - 1 - (names.length - 1 - i) = i by omega]
  exact fm_congr this
theorem riseNd {l : List Str} (h : Rise l) : l.Nodup := List.Pairwise.imp (fun {a b} z e => by rw [e, sLtB_irr] at z; cases z) h
end My
namespace My
open PySem L2
def trD (t : Tr) : PyData := .tuple [.str t.1, .str t.2.1, .str t.2.2]
def netD (net : List Tr) : PyData := .list (net.map trD)
theorem eqv_tr (t : Tr) : PyData.eqv (trD t) (trD t) = true := by
  show (t.1 == t.1 && (t.2.1 == t.2.1 && (t.2.2 == t.2.2 && true))) = true
  simp
theorem eqv_net : ∀ net : List Tr, PyData.eqv (netD net) (netD net) = true
  | [] => rfl
  | t :: r => by
    have ih : PyData.eqvAll (r.map trD) (r.map trD) = true := eqv_net r
    show (PyData.eqv (trD t) (trD t) && PyData.eqvAll (r.map trD) (r.map trD)) = true
    rw [eqv_tr, ih]; rfl
theorem lay_net : ∀ {net : List Tr}, TxN net → PyData.canLayAll0 (net.map trD) = true ∧ PyData.depthAll (net.map trD) ≤ 1
  | [], _ => ⟨rfl, by decide⟩
  | t :: r, h => by
    obtain ⟨h1, h2⟩ := lay_net (net := r) fun y hy => h y (List.mem_cons_of_mem _ hy)
    obtain ⟨t1, t2, t3⟩ := h t List.mem_cons_self
    refine ⟨?_, ?_⟩
    · show ((PyData.strOk t.1 && (PyData.strOk t.2.1 && (PyData.strOk t.2.2 && true))) && PyData.canLayAll0 (r.map trD)) = true
      rw [h1, t1.ok, t2.ok, t3.ok]; rfl
    · show max (max 0 (max 0 (max 0 0)) + 1) (PyData.depthAll (r.map trD)) ≤ 1
      omega
theorem shaped_net {net : List Tr} (h : TxN net) : SeqAt.shaped (netD net) = true := by
  obtain ⟨h3, h4⟩ := lay_net h
  show (PyData.canLayAll0 (net.map trD) && decide (PyData.depthAll (net.map trD) + 1 ≤ 64)) = true
  rw [h3, decide_eq_true (by omega)]; rfl
theorem drs_net {K : PySem.W.Frag} {H : Hp} : ∀ {as : List Addr} {net : List Tr}, Paired (fun a t => H a = some (.tup (trV t))) as net → DRs K H (as.map V.ref) (net.map trD)
  | _, _, .nil => .nil
  | _, _, .cons h t => .cons (.tup (SqT.of h) (.cons (.str _) (.cons (.str _) (.cons (.str _) .nil)))) (drs_net t)
theorem dr_net {K : PySem.W.Frag} {H : Hp} {p : Addr} {net : List Tr} (h : NetAt H p net) : DR K H (.ref p) (netD net) := by
  obtain ⟨as, h1, h2⟩ := h
  exact .lst (SqL.of h1) (drs_net h2)
theorem filt_t {α : Type} {p : α → Bool} {l : List α} {i : Nat} {t : α} (h : l[i]? = some t) (c : p t = true) : (l.take (i + 1)).filter p = (l.take i).filter p ++ [t] := by rw [take_snoc h, List.filter_append]; simp [c]
theorem filt_f {α : Type} {p : α → Bool} {l : List α} {i : Nat} {t : α} (h : l[i]? = some t) (c : p t = false) : (l.take (i + 1)).filter p = (l.take i).filter p := by rw [take_snoc h, List.filter_append]; simp [c]
theorem lay_rows : ∀ {F : List (List Str)}, (∀ r ∈ F, SOk r) → PyData.canLayAll0 (F.map rowD) = true ∧ PyData.depthAll (F.map rowD) ≤ 1
  | [], _ => ⟨rfl, by decide⟩
  | x :: r, h => by
    obtain ⟨h1, h2⟩ := lay_rows (F := r) fun y hy => h y (List.mem_cons_of_mem _ hy)
    obtain ⟨h3, h4⟩ := lay_strs (h x List.mem_cons_self)
    refine ⟨?_, ?_⟩
    · show (PyData.canLayAll0 (x.map .str) && PyData.canLayAll0 (r.map rowD)) = true
      rw [h1, h3]; rfl
    · show max (PyData.depthAll (x.map .str) + 1) (PyData.depthAll (r.map rowD)) ≤ 1
      rw [h4]; omega
theorem shaped_rows {F : List (List Str)} (h : ∀ r ∈ F, SOk r) : SeqAt.shaped (rowsD F) = true := by
  obtain ⟨h3, h4⟩ := lay_rows h
  show (PyData.canLayAll0 (F.map rowD) && decide (PyData.depthAll (F.map rowD) + 1 ≤ 64)) = true
  rw [h3, decide_eq_true (by omega)]; rfl
theorem dr_rows' {K : PySem.W.Frag} {H : Hp} : ∀ {as : List Addr} {F : List (List Str)}, Paired (LsS H) as F → DRs K H (as.map V.ref) (F.map rowD)
  | _, _, .nil => .nil
  | _, _, .cons h t => .cons (dr_row h) (dr_rows' t)
theorem dr_rows {K : PySem.W.Frag} {H : Hp} {p : Addr} {F : List (List Str)} (h : RowsAt H p F) : DR K H (.ref p) (rowsD F) := by
  obtain ⟨as, h1, h2⟩ := h
  exact .lst (SqL.of h1) (dr_rows' h2)
def JL (H : Hp) (as : List Addr) (n : Nat) : Prop := ∀ a ∈ as, ∃ ys, H a = some (.lst ys) ∧ ys.length ≤ n
theorem JL.upd {H : Hp} {as : List Addr} {n m : Nat} (h : JL H as n) {b : Addr} {ys : List V} (hy : ys.length ≤ m) (nm : n ≤ m) : JL (upd H b (.lst ys)) as m := fun a ha => by
  by_cases e : a = b
  · subst e; exact ⟨ys, upd_same, hy⟩
  · obtain ⟨zs, h1, h2⟩ := h a ha
    exact ⟨zs, by rw [upd_ne e]; exact h1, by omega⟩
theorem JL.of {H H0 : Hp} {p : Addr} {as : List Addr} {F : List (List Str)} {n : Nat} (h : Paired (fun a r => LsS H a r ∧ H0 a = none ∧ a ≠ p) as F) (hn : ∀ r ∈ F, r.length ≤ n) : JL H as n := fun a ha => by
  obtain ⟨r, hr, h1, _⟩ := paired_memA h a ha
  exact ⟨_, h1, by rw [List.length_map]; exact hn r hr⟩
end My
namespace My
open PySem L2
theorem mem_rowM {names : List Str} {z : Nat} {n : Str} : n ∈ rowM names z ↔ ∃ i, i < names.length ∧ names[i]? = some n ∧ z.testBit (names.length - 1 - i) = true := by
  unfold rowM
  rw [List.mem_filterMap]
  constructor
  · rintro ⟨i, hi, e⟩
    split at e
    · rename_i b
      exact ⟨i, List.mem_range.mp hi, e, b⟩
    · cases e
  · rintro ⟨i, hi, e, b⟩
    exact ⟨i, List.mem_range.mpr hi, by rw [if_pos b]; exact e⟩
theorem idx_one {names : List Str} (nd : names.Nodup) {i j : Nat} {n : Str} (hi : names[i]? = some n) (hj : names[j]? = some n) : i = j :=
  (List.getElem?_inj (List.getElem?_eq_some_iff.mp hi).1 nd).mp (hi.trans hj.symm)
abbrev chi (names : List Str) (z : Nat) : Str → Bool := fun n => decide (n ∈ rowM names z)
theorem chi_at {names : List Str} (nd : names.Nodup) {z i : Nat} {n : Str} (hi : names[i]? = some n) : chi names z n = z.testBit (names.length - 1 - i) := by
  have il := (List.getElem?_eq_some_iff.mp hi).1
  cases q : z.testBit (names.length - 1 - i) with
  | true => exact decide_eq_true (mem_rowM.mpr ⟨i, il, hi, q⟩)
  | false =>
    refine decide_eq_false fun m => ?_
    obtain ⟨j, _, ej, bj⟩ := mem_rowM.mp m
    rw [idx_one nd ej hi, q] at bj; cases bj
theorem maskF_row {names : List Str} (nd : names.Nodup) {z : Nat} (hz : z < 2 ^ names.length) : maskF names (rowM names z) = z := by
  refine Nat.eq_of_testBit_eq fun j => ?_
  rw [maskF_bit]
  by_cases hj : j < names.length
  · rw [decide_eq_true hj, Bool.true_and]
    have hi : names.length - 1 - j < names.length := by omega
    have e := List.getElem?_eq_getElem hi
    have c := chi_at nd (z := z) e
    rw [show names.length - 1 - (names.length - 1 - j) = j by omega] at c
    rw [← c]
    refine decide_eq_decide.mpr ⟨fun ⟨n, h1, h2⟩ => ?_, fun h => ⟨_, e, h⟩⟩
    rw [e] at h1
    cases h1
    exact h2
  · rw [decide_eq_false hj, tb_hi hz (by omega)]; rfl
theorem dot_comm (m x y : Nat) : dot m x y = dot m y x := xsum_congr fun j _ => Bool.and_comm _ _
theorem dd {S : List Nat} {m : Nat} (h : RR S) (hm : ∀ s ∈ S, s < 2 ^ m) {y : Nat} (hy : y < 2 ^ m) (ho : ∀ z ∈ crAll S m, dot m y z = false) : Spn S y := by
  have sp := red1_spn S S (fun s hs => hs) y
  have lead := fun s hs => red1_lead h (x := y) s hs
  have lt : red1 S y < 2 ^ m := by
    have := Spn.lt hm sp
    have e : red1 S y = (red1 S y ^^^ y) ^^^ y := (xor_back _ _).symm
    rw [e]
    exact Nat.xor_lt_two_pow this hy
  have ort : ∀ p, p < m → ¬ isLd S p → dot m (red1 S y) (crM S p) = false := fun p hp np => by
    have e : red1 S y = (red1 S y ^^^ y) ^^^ y := (xor_back _ _).symm
    rw [e, dot_left, ho _ (List.mem_map.mpr ⟨p, List.mem_filter.mpr ⟨List.mem_range.mpr hp, by rw [decide_eq_false np]; rfl⟩, rfl⟩), Bool.xor_false]
    refine spn_dotL (fun s hs => ?_) sp
    rw [dot_comm]
    exact crM_dot h hm hp np s hs
  have z : red1 S y = 0 := Nat.eq_of_testBit_eq fun p => by
    rw [Nat.zero_testBit]
    by_cases hp : p < m
    · by_cases np : isLd S p
      · obtain ⟨s, hs, rfl⟩ := np
        exact lead s hs
      · have := ort p hp np
        have bit : (crM S p).testBit p = true := by
          rw [crM_bit h np, decide_eq_true rfl, decide_eq_false]
          · rfl
          · rintro ⟨s, hs, _, e⟩; exact np ⟨s, hs, e⟩
        rw [dot_only hp bit fun j hj nj => ?_] at this
        · exact this
        · rw [crM_bit h np, decide_eq_false (Ne.symm nj), Bool.false_xor]
          by_cases c : ∃ s ∈ S, s.testBit p = true ∧ s.log2 = j
          · obtain ⟨s, hs, _, rfl⟩ := c
            rw [lead s hs]; rfl
          · rw [decide_eq_false c, Bool.and_false]
    · exact tb_hi lt (Nat.le_of_not_lt hp)
  have : y = red1 S y ^^^ y := by rw [z, Nat.zero_xor]
  rw [this]; exact sp
theorem cnt_par {α : Type} (f : Nat → Option α) (p : Nat → Bool) : ∀ k, (∀ i, i < k → (f i).isSome = true) → ((List.range k).filterMap fun i => if p i = true then f i else none).length % 2 = if xsum k p = true then 1 else 0
  | 0, _ => rfl
  | k + 1, h => by
    have ih := cnt_par f p k fun i hi => h i (by omega)
    rw [List.range_succ, List.filterMap_append, List.length_append]
    have hs := h k (Nat.lt_succ_self k)
    obtain ⟨v, hv⟩ := Option.isSome_iff_exists.mp hs
    unfold xsum
    cases hp : p k with
    | true =>
      have e : ([k].filterMap fun i => if p i = true then f i else none).length = 1 := by simp [hp, hv]
      rw [e]
      cases hx : xsum k p
      · rw [hx, if_neg Bool.false_ne_true] at ih; simp; omega
      · rw [hx, if_pos rfl] at ih; simp; omega
    | false =>
      have e : ([k].filterMap fun i => if p i = true then f i else none).length = 0 := by simp [hp]
      rw [e, Nat.add_zero, Bool.xor_false]; exact ih
def sumF (N : List Nat) : List Nat := N.foldl (fun S x => S ++ S.map fun z => z ^^^ x) [0]
theorem sumF_snoc (N : List Nat) (x : Nat) : sumF (N ++ [x]) = sumF N ++ (sumF N).map fun z => z ^^^ x := by unfold sumF; rw [List.foldl_append]; rfl
theorem spn_snoc {l : List Nat} {x z : Nat} : Spn (l ++ [x]) z ↔ Spn l z ∨ Spn l (z ^^^ x) := by
  constructor
  · intro h
    induction h with
    | zero => exact .inl .zero
    | add hm _ ih =>
      rename_i m y _
      rcases List.mem_append.mp hm with w | w
      · rcases ih with i | i
        · exact .inl (.add w i)
        · refine .inr ?_
          have := Spn.add w i
          rw [← Nat.xor_assoc] at this
          exact this
      · rw [List.mem_singleton] at w
        subst w
        rcases ih with i | i
        · refine .inr ?_
          rw [Nat.xor_comm m y, xor_back]; exact i
        · refine .inl ?_
          rw [Nat.xor_comm m y]; exact i
  · have up : ∀ {y}, Spn l y → Spn (l ++ [x]) y := fun hy => hy.mono fun u hu => .mem (List.mem_append_left _ hu)
    rintro (h | h)
    · exact up h
    · have := (up h).xor (Spn.mem (by simp : x ∈ l ++ [x]))
      rw [xor_back] at this
      exact this
theorem sumF_spn (N : List Nat) : ∀ z, z ∈ sumF N ↔ Spn N z := by
  refine snocN (P := fun N => ∀ z, z ∈ sumF N ↔ Spn N z) (fun z => ?_) (fun l x ih z => ?_) N
  · constructor
    · intro h
      have : z = 0 := by simpa [sumF] using h
      rw [this]; exact .zero
    · intro h
      have : z = 0 := by
        cases h with
        | zero => rfl
        | add hm _ => cases hm
      rw [this]; simp [sumF]
  · rw [sumF_snoc, List.mem_append, spn_snoc, ih, List.mem_map]
    refine or_congr Iff.rfl ⟨fun ⟨y, hy, e⟩ => ?_, fun h => ⟨z ^^^ x, (ih _).mpr h, xor_back z x⟩⟩
    rw [← e, xor_back]; exact (ih y).mp hy
theorem sumF_len (N : List Nat) : (sumF N).length = 2 ^ N.length := by
  refine snocN (P := fun N => (sumF N).length = 2 ^ N.length) rfl (fun l x ih => ?_) N
  rw [sumF_snoc, List.length_append, List.length_map, ih, List.length_append]
  show _ = 2 ^ (l.length + 1)
  rw [Nat.pow_succ]; omega
def cbT (S : List Str) (t : Tr) : Bool := decide (t.2.1 ∈ S) != decide (t.2.2 ∈ S)
def cutF (net : List Tr) (S : List Str) : List Str := (net.filter (cbT S)).map (·.1)
theorem cutF_len (net : List Tr) (S : List Str) : (cutF net S).length ≤ net.length := by
  unfold cutF
  rw [List.length_map]
  exact List.length_filter_le _ _
theorem cut_ix (g : Tr → Bool) (net : List Tr) : ∀ k, k ≤ net.length → ((net.take k).filter g).map (·.1) = (List.range k).filterMap fun i => if gT net g i = true then (nmS net)[i]? else none
  | 0, _ => rfl
  | k + 1, h => by
    have ih := cut_ix g net k (by omega)
    have hk : k < net.length := by omega
    have e := List.getElem?_eq_getElem hk
    rw [take_snoc e, List.filter_append, List.map_append, ih, List.range_succ, List.filterMap_append]
    congr 1
    have eg : gT net g k = g net[k] := by unfold gT; rw [e]
    cases c : g net[k] with
    | true =>
      rw [List.filter_cons, if_pos c, List.filterMap_cons, eg, c, if_pos rfl, nm_at e]
      rfl
    | false =>
      rw [List.filter_cons, if_neg (by rw [c]; exact Bool.false_ne_true)]
      simp [eg, c]
theorem cut_ixA (net : List Tr) (S : List Str) : cutF net S = (List.range net.length).filterMap fun i => if gT net (cbT S) i = true then (nmS net)[i]? else none := by
  have := cut_ix (cbT S) net net.length (Nat.le_refl _)
  rw [List.take_of_length_le (Nat.le_refl _)] at this
  exact this
theorem cut_mem {net : List Tr} (nd : (nmS net).Nodup) {t : Tr} (ht : t ∈ net) (S : List Str) : t.1 ∈ cutF net S ↔ cbT S t = true := by
  unfold cutF
  rw [List.mem_map]
  constructor
  · rintro ⟨u, hu, e⟩
    obtain ⟨h1, h2⟩ := List.mem_filter.mp hu
    rw [← nm_inj nd h1 ht e]; exact h2
  · intro h
    exact ⟨t, List.mem_filter.mpr ⟨ht, h⟩, rfl⟩
theorem cut_even {net : List Tr} {ps : List Str} (nd : (nmS net).Nodup) (pk : PtsOk net ps) {z : Nat} (hz : z < 2 ^ net.length) (hd : ∀ x ∈ ps, dot net.length z (maskF (nmS net) (metF net x)) = false) (S : List Str) : ((rowM (nmS net) z).filter fun n => decide (n ∈ cutF net S)).length % 2 = 0 := by
  have b0 := (link nd pk pk hz).mp hd
  have hx : xsum net.length (fun i => z.testBit (net.length - 1 - i) && gT net (cbT S) i) = false := by
    have e := phi_bd ps.length (fun q => decide (∃ x, ps[q]? = some x ∧ x ∈ S)) (vF net ps) net.length (rv net.length z)
    rw [b0, phi_zero] at e
    rw [e]
    refine xsum_congr fun i hi => ?_
    have ht := List.getElem?_eq_getElem hi
    have p1 := ixF_at ((pk.2 _).mpr ⟨_, List.getElem_mem hi, .inl rfl⟩ : net[i].2.1 ∈ ps)
    have p2 := ixF_at ((pk.2 _).mpr ⟨_, List.getElem_mem hi, .inr rfl⟩ : net[i].2.2 ∈ ps)
    rw [rv_bit, decide_eq_true hi, Bool.true_and, vF_at ht]
    unfold vT
    rw [phi_xor, phi_pow p1.2.2, phi_pow p2.2.2]
    congr 1
    unfold gT
    rw [ht]
    have d : ∀ {x : Str} {q : Nat}, ps[q]? = some x → decide (∃ y, ps[q]? = some y ∧ y ∈ S) = decide (x ∈ S) := fun {x q} e => decide_eq_decide.mpr ⟨fun ⟨y, h1, h2⟩ => by rw [e] at h1; cases h1; exact h2, fun h => ⟨x, e, h⟩⟩
    rw [d p1.1, d p2.1]
    show (decide (net[i].2.1 ∈ S) != decide (net[i].2.2 ∈ S)) = _
    cases decide (net[i].2.1 ∈ S) <;> cases decide (net[i].2.2 ∈ S) <;> rfl
  have e : ((rowM (nmS net) z).filter fun n => decide (n ∈ cutF net S)) = (List.range net.length).filterMap fun i => if (z.testBit (net.length - 1 - i) && gT net (cbT S) i) = true then (nmS net)[i]? else none := by
    unfold rowM
    rw [List.filter_filterMap, List.length_map]
    refine fm_congr fun i hi => ?_
    have hi := List.mem_range.mp hi
    have ht := List.getElem?_eq_getElem hi
    have eg : gT net (cbT S) i = cbT S net[i] := by unfold gT; rw [ht]
    rw [nm_at ht, eg]
    cases c1 : z.testBit (net.length - 1 - i) with
    | false => simp
    | true =>
      cases c2 : cbT S net[i] with
      | true =>
        have := (cut_mem nd (List.getElem_mem hi) S).mpr c2
        simp [Option.filter, this]
      | false =>
        have : ¬ net[i].1 ∈ cutF net S := fun z => by rw [(cut_mem nd (List.getElem_mem hi) S).mp z] at c2; cases c2
        simp [Option.filter, this]
  rw [e, cnt_par (fun i => (nmS net)[i]?) _ net.length fun i hi => by rw [nm_at (List.getElem?_eq_getElem hi)]; rfl, hx]
  rfl
theorem star_cut {net : List Tr} {ps : List Str} (nd : (nmS net).Nodup) {z : Nat} (h : Spn (ps.map fun x => maskF (nmS net) (metF net x)) z) : ∃ A : Str → Bool, ∀ i, i < net.length → z.testBit (net.length - 1 - i) = gT net (fun t => A t.2.1 ^^ A t.2.2) i := by
  induction h with
  | zero => exact ⟨fun _ => false, fun i hi => by unfold gT; rw [List.getElem?_eq_getElem hi]; simp⟩
  | add hm _ ih =>
    obtain ⟨A, ih⟩ := ih
    obtain ⟨x, hx, rfl⟩ := List.mem_map.mp hm
    refine ⟨fun y => decide (y = x) ^^ A y, fun i hi => ?_⟩
    rw [Nat.testBit_xor, ih i hi, sm_bit nd x (by omega), show net.length - 1 - (net.length - 1 - i) = i by omega]
    unfold gT atX
    rw [List.getElem?_eq_getElem hi]
    dsimp only
    cases decide (net[i].2.1 = x) <;> cases decide (net[i].2.2 = x) <;> cases A net[i].2.1 <;> cases A net[i].2.2 <;> rfl
theorem cut_num {net : List Tr} {ps : List Str} (nd : (nmS net).Nodup) (pk : PtsOk net ps) {z : Nat} (h : Spn (ps.map fun x => maskF (nmS net) (metF net x)) z) : ∃ n, n < 2 ^ ps.length ∧ cutF net (rowL ps n) = rowM (nmS net) z := by
  obtain ⟨A, hA⟩ := star_cut nd h
  refine ⟨rv ps.length (maskF ps (ps.filter A)), rv_lt _ _, ?_⟩
  rw [← rowL_rv, rv_rv (maskF_lt _ _)]
  have mem : ∀ x, isPt net x → (x ∈ rowM ps (maskF ps (ps.filter A)) ↔ A x = true) := fun x hx => by
    have hp := (pk.2 x).mpr hx
    rw [mem_rowM]
    constructor
    · rintro ⟨i, hi, e, b⟩
      rw [maskF_bit, decide_eq_true (by omega : ps.length - 1 - i < ps.length), Bool.true_and] at b
      obtain ⟨n, h1, h2⟩ := of_decide_eq_true b
      rw [show ps.length - 1 - (ps.length - 1 - i) = i by omega, e] at h1
      cases h1
      exact (List.mem_filter.mp h2).2
    · intro ha
      obtain ⟨i, hi, e⟩ := List.getElem_of_mem hp
      have e' : ps[i]? = some x := by rw [List.getElem?_eq_getElem hi, e]
      refine ⟨i, hi, e', ?_⟩
      rw [maskF_bit, decide_eq_true (by omega : ps.length - 1 - i < ps.length), Bool.true_and]
      exact decide_eq_true ⟨x, by rw [show ps.length - 1 - (ps.length - 1 - i) = i by omega]; exact e', List.mem_filter.mpr ⟨hp, ha⟩⟩
  have er : rowM (nmS net) z = (List.range net.length).filterMap fun i => if z.testBit (net.length - 1 - i) = true then (nmS net)[i]? else none := by
    unfold rowM
    rw [List.length_map]
  rw [cut_ixA, er]
  refine fm_congr fun i hi => ?_
  have hi := List.mem_range.mp hi
  have ht := List.getElem?_eq_getElem hi
  have bb : ∀ a b : Bool, (decide (a = true) != decide (b = true)) = (a ^^ b) := by decide
  have e : gT net (cbT (rowM ps (maskF ps (ps.filter A)))) i = gT net (fun t => A t.2.1 ^^ A t.2.2) i := by
    unfold gT
    rw [ht]
    show (decide _ != decide _) = _
    rw [decide_eq_decide.mpr (mem _ ⟨_, List.getElem_mem hi, .inl rfl⟩), decide_eq_decide.mpr (mem _ ⟨_, List.getElem_mem hi, .inr rfl⟩)]
    exact bb _ _
  rw [hA i hi, e]
end My
namespace My
open PySem L2
theorem cutF_snoc (net : List Tr) (t : Tr) (S : List Str) : cutF (net ++ [t]) S = cutF net S ++ (if cbT S t = true then [t.1] else []) := by
  unfold cutF
  rw [List.filter_append, List.map_append]
  congr 1
  by_cases c : cbT S t = true
  · rw [if_pos c, List.filter_cons, if_pos c]; rfl
  · rw [if_neg c, List.filter_cons, if_neg c]; rfl
def spCut : Sp := fun vs H Q _ => ∃ (p ps : Addr) (net : List Tr) (S : List Str), vs = [.ref p, .ref ps] ∧ NetAt H p net ∧ net.length ≤ 12 ∧ LsS H ps S ∧ ∀ r H', Ext H H' → H r = none → LsS H' r (cutF net S) → Q (.ref r) H'
theorem key_cut (a b : Bool) : ((!decide (V.bl a = V.bl b)) = true) ↔ (a != b) = true := by cases a <;> cases b <;> simp
theorem key_int (a b : Bool) : (decide (V.int ((if a = true then (1 : Int) else 0) + (if b = true then (1 : Int) else 0)) = V.int 1) = true) ↔ (a != b) = true := by cases a <;> cases b <;> simp
section
variable {P : Program} {w : World} {K : PySem.W.Frag} {mg : Str → Option Value} {base : Heap} {f : Addr} {fd : FuncData}
theorem scCut : FnScope ["net", "some"] ["net", "some"] (defScope sCut) := ⟨rfl, rfl, rfl, by decide +kernel, rfl, by decide +kernel, by decide +kernel⟩
set_option maxHeartbeats 4000000 in
theorem ok_cut (F : Fun K "cut" "cut" sCut f fd) : FnOk P w K mg base CX0 1 f fd ["net", "some"] spCut := by
  refine F.ok scCut (fun vs H Q E h => ?_) (fun cdv A outer s H vs Q E hr h => ?_)
  · obtain ⟨p, ps, net, S, rfl, _⟩ := h
    rfl
  obtain ⟨p, ps, net, S, rfl, ⟨as, hp, pr⟩, hl, hs, q⟩ := h
  refine ⟨_, pss_one (ps_ret (pe_lc (N := ["net", "some"]) (sc := defScope sCut) (N' := ["tie", "one", "other", "some"]) (sub := [none, none, none, some 1]) rfl rfl (CmpOk.of (by decide +kernel)) rfl (pi_list (pv 0)) (fun C s H fp => ⟨(show PG _ _ (gTup K 3 _) from pg_tup rfl (pgs_cons (pg_name (i := 0) (by show (["tie", "one", "other", "some"] : List Str).Nodup; decide) rfl (Or.inl rfl)) (pgs_cons (pg_name (i := 1) (by show (["tie", "one", "other", "some"] : List Str).Nodup; decide) rfl (Or.inl rfl)) (pgs_cons (pg_name (i := 2) (by show (["tie", "one", "other", "some"] : List Str).Nodup; decide) rfl (Or.inl rfl)) pgs_nil)))), (pts_one (pt_cmpR op_ne (pe_cmpR (show OpR _ (compareOp .In) (rIn K false) from op_in_seq) (pv 1) (pv 3) (by with_unfolding_all rfl)) (pe_cmpR (show OpR _ (compareOp .In) (rIn K false) from op_in_seq) (pv 2) (pv 3) (by with_unfolding_all rfl)) (nomark _))), (pv 0)⟩))), ?_⟩
  have lA : as.length = net.length := pr.length
  refine ⟨_, rfl, p, rfl, ⟨_, SqL.of hp⟩, ?_⟩
  refine turns_list (xs := as.map V.ref) (fun j ys H2 => H2 = H ∧ ys = (cutF (net.take j) S).map V.str) ⟨rfl, rfl⟩ (fun j ys H2 _ h => by rw [h.1]; exact SqL.of hp) ?_ ?_
  · rintro j v ys H2 hx ⟨rfl, rfl⟩
    obtain ⟨a, t, rfl, ht, ha⟩ := net_get pr hx
    have hj := at_lt ht
    refine ⟨a, _, rfl, SqT.of ha, rfl, _, _, rfl, _, _, rfl, _, _, rfl, rfl, ?_⟩
    refine ⟨Sle.set _ (Sle.set _ (Sle.set _ (Sle.refl _) (fun u z => by cases z)) (fun u z => by cases z)) (fun u z => by cases z), ?_⟩
    refine ⟨_, rfl, _, rfl, ps, _, rfl, .inl (SqL.of hs), rfl, flat_strs _, _, rfl, _, rfl, ps, _, rfl, .inl (SqL.of hs), rfl, flat_strs _, rfl, _, rfl, ?_⟩
    rw [if_neg (by decide), if_neg (by decide), inV_str, inV_str]
    have sz := cutF_len (net.take j) S
    rw [List.length_take] at sz
    refine ite2 (fun c => ?_) (fun c => ?_)
    · have b : cbT S t = true := (key_cut _ _).mp c
      refine ⟨_, rfl, by rw [List.length_map]; exact small1000 (by omega), nxt (at_lt hx) ⟨rfl, ?_⟩⟩
      rw [take_snoc ht, cutF_snoc, if_pos b, List.map_append]; rfl
    · have b : ¬ cbT S t = true := fun z => c ((key_cut _ _).mpr z)
      refine nxt (at_lt hx) ⟨rfl, ?_⟩
      rw [take_snoc ht, cutF_snoc, if_neg b, List.append_nil]
  · rintro ys H2 ⟨rfl, rfl⟩ r hr'
    rw [List.length_map, lA, List.take_of_length_le (Nat.le_refl _)]
    exact q r _ (Ext.new hr' _) hr' upd_same
theorem scLCut : FnScope ["_law_net_here", "_law_some"] ["_law_net_here", "_law_some"] (defScope sLCut) := ⟨rfl, rfl, rfl, by decide +kernel, rfl, by decide +kernel, by decide +kernel⟩
set_option maxHeartbeats 4000000 in
theorem ok_lcut (F : Fun K "_law_cut" "_law_cut" sLCut f fd) (mi : mg "int" = none) : FnOk P w K mg base CX0 1 f fd ["_law_net_here", "_law_some"] spCut := by
  refine F.ok scLCut (fun vs H Q E h => ?_) (fun cdv A outer s H vs Q E hr h => ?_)
  · obtain ⟨p, ps, net, S, rfl, _⟩ := h
    rfl
  obtain ⟨p, ps, net, S, rfl, ⟨as, hp, pr⟩, hl, hs, q⟩ := h
  refine ⟨_, pss_one (ps_ret (pe_lc (N := ["_law_net_here", "_law_some"]) (sc := defScope sLCut) (N' := ["_law_tie", "_law_some"]) (sub := [none, some 1]) rfl rfl (CmpOk.of (by decide +kernel)) rfl (pi_list (pv 0)) (fun C s H fp => ⟨pg_name (i := 0) (by show (["_law_tie", "_law_some"] : List Str).Nodup; decide) rfl (Or.inl rfl), (pts_one (pt_cmpR op_eq (pe_op op_add (pe_callTy call_int1 rfl mi boot_int' (pa_cons (pe_cmpR (show OpR _ (compareOp .In) (rIn K false) from op_in_seq) (pe_ix (show IxR _ (rIxT K) from ix_tup) (pv 0) pe_int (fun _ _ => rfl)) (pv 1) (by with_unfolding_all rfl)) pa_nil)) (pe_callTy call_int1 rfl mi boot_int' (pa_cons (pe_cmpR (show OpR _ (compareOp .In) (rIn K false) from op_in_seq) (pe_ix (show IxR _ (rIxT K) from ix_tup) (pv 0) pe_int (fun _ _ => rfl)) (pv 1) (by with_unfolding_all rfl)) pa_nil))) pe_int (nomark _))), (pe_ix (show IxR _ (rIxT K) from ix_tup) (pv 0) pe_int (fun _ _ => rfl))⟩))), ?_⟩
  have lA : as.length = net.length := pr.length
  refine ⟨_, rfl, p, rfl, ⟨_, SqL.of hp⟩, ?_⟩
  refine turns_list (xs := as.map V.ref) (fun j ys H2 => H2 = H ∧ ys = (cutF (net.take j) S).map V.str) ⟨rfl, rfl⟩ (fun j ys H2 _ h => by rw [h.1]; exact SqL.of hp) ?_ ?_
  · rintro j v ys H2 hx ⟨rfl, rfl⟩
    obtain ⟨a, t, rfl, ht, ha⟩ := net_get pr hx
    have hj := at_lt ht
    refine ⟨Sle.set _ (Sle.refl _) (fun u z => by cases z), ?_⟩
    refine ⟨_, rfl, a, _, _, _, rfl, rfl, SqT.of ha, (by exact atI_nat (j := 1) rfl), _, rfl, ps, _, rfl, .inl (SqL.of hs), rfl, flat_strs _, .inr ⟨decide (t.2.1 ∈ S), (by rw [if_neg (by decide), inV_str]), ?_⟩⟩
    refine ⟨_, rfl, a, _, _, _, rfl, rfl, SqT.of ha, (by exact atI_nat (j := 2) rfl), _, rfl, ps, _, rfl, .inl (SqL.of hs), rfl, flat_strs _, .inr ⟨decide (t.2.2 ∈ S), (by rw [if_neg (by decide), inV_str]), ?_⟩⟩
    refine ⟨_, _, rfl, rfl, rfl, _, rfl, ?_⟩
    have sz := cutF_len (net.take j) S
    rw [List.length_take] at sz
    refine ite2 (fun c => ?_) (fun c => ?_)
    · have b : cbT S t = true := (key_int _ _).mp c
      refine ⟨_, rfl, a, _, _, _, rfl, rfl, SqT.of ha, (by exact atI_nat (j := 0) rfl), by rw [List.length_map]; exact small1000 (by omega), nxt (at_lt hx) ⟨rfl, ?_⟩⟩
      rw [take_snoc ht, cutF_snoc, if_pos b, List.map_append]; rfl
    · have b : ¬ cbT S t = true := fun z => c ((key_int _ _).mpr z)
      refine nxt (at_lt hx) ⟨rfl, ?_⟩
      rw [take_snoc ht, cutF_snoc, if_neg b, List.append_nil]
  · rintro ys H2 ⟨rfl, rfl⟩ r hr'
    rw [List.length_map, lA, List.take_of_length_le (Nat.le_refl _)]
    exact q r _ (Ext.new hr' _) hr' upd_same
end
end My
namespace My
open PySem L2
theorem small5000 {n : Nat} (h : n ≤ 5000) : n < sizeLine := Nat.lt_of_le_of_lt h (by decide)
def spSums : Sp := fun vs H Q _ => ∃ (p : Addr) (N : List Nat), vs = [.ref p] ∧ LsN H p N ∧ N.length ≤ 12 ∧ ∀ r H', Ext H H' → H r = none → LsN H' r (sumF N) → Q (.ref r) H'
def lpI : Pos := match (defBody sInOrd).getD 0 (.Pass ⟨0, 0, 0, 0⟩) with
  | .Return (some (.Call _ _ [⟨_, .Lambda _ _ _ p, _⟩] _)) _ => p
  | _ => ⟨0, 0, 0, 0⟩
abbrev qI : Str := ("in_order" : Str) ++ ".<locals>." ++ "<lambda>"
theorem Ext.toB {P : Addr} {H H' : Hp} (e : Ext H H') : ExtB P H H' := fun b o _ h => e b o h
theorem _root_.L2.ExtB.trans {P : Addr} {H H1 H2 : Hp} (a : ExtB P H H1) (b : ExtB P H1 H2) : ExtB P H H2 := fun c o n h => b c o n (a c o n h)
theorem TabW.extE {H H' : Hp} {P : Addr} {lpos : Pos} {q : Str} (h : TabW H P lpos q) (e : Ext H H') : TabW H' P lpos q := h.ext e
theorem TabW.tb {H : Hp} {P : Addr} {lpos : Pos} {q : Str} (h : TabW H P lpos q) : ∃ ps, H P = some (.tbl ps) := by
  rcases h with h | ⟨c, h, _⟩
  · exact ⟨_, h⟩
  · exact ⟨_, h⟩
abbrev RwO (F : List (List Str)) : Prop := F.Pairwise fun a b => kLt b a = false
def spInOrd (Pt : Addr) : Sp := fun vs H Q _ => ∃ (p : Addr) (F : List (List Str)), vs = [.ref p] ∧ RowsAt H p F ∧ F.length ≤ 5000 ∧ TabW H Pt lpI qI ∧ ∀ (r : Addr) (F' : List (List Str)) (H' : Hp), ExtB Pt H H' → H r = none → RowsAt H' r F' → F'.Perm F → RwO F' → TabW H' Pt lpI qI → Q (.ref r) H'
def rmOk (told : List Nat) (m : Nat) : Bool := !decide (m = 0) && !(told.any fun o => decide (o &&& m = o))
def rmS (told : List Nat) (m : Nat) : List Nat := if rmOk told m = true then told ++ [m] else told
def rmF (L : List Nat) : List Nat := L.foldl rmS []
theorem rmF_snoc (L : List Nat) (m : Nat) : rmF (L ++ [m]) = rmS (rmF L) m := by unfold rmF; rw [List.foldl_append]; rfl
theorem rmF_mem (L : List Nat) : ∀ z ∈ rmF L, z ∈ L ∧ z ≠ 0 := by
  refine snocN (P := fun L => ∀ z ∈ rmF L, z ∈ L ∧ z ≠ 0) (fun z hz => by cases hz) (fun l m ih z hz => ?_) L
  rw [rmF_snoc] at hz
  unfold rmS at hz
  split at hz
  · rename_i c
    rcases List.mem_append.mp hz with h | h
    · exact ⟨List.mem_append_left _ (ih z h).1, (ih z h).2⟩
    · rw [List.mem_singleton.mp h]
      refine ⟨by simp, fun e => ?_⟩
      unfold rmOk at c
      rw [e] at c
      simp at c
  · exact ⟨List.mem_append_left _ (ih z hz).1, (ih z hz).2⟩
theorem rmF_len (L : List Nat) : (rmF L).length ≤ L.length := by
  refine snocN (P := fun L => (rmF L).length ≤ L.length) (Nat.le_refl _) (fun l m ih => ?_) L
  rw [rmF_snoc]
  unfold rmS
  split
  · rw [List.length_append, List.length_append]; exact Nat.add_le_add_right ih 1
  · rw [List.length_append]; omega
theorem nat_ints {ns : List Int} {ms : List Nat} (p : ns.Perm (ms.map fun n : Nat => (n : Int))) : ∃ hs : List Nat, ns = hs.map (fun n : Nat => (n : Int)) ∧ hs.Perm ms := by
  refine ⟨ns.map Int.toNat, ?_, ?_⟩
  · rw [List.map_map]
    refine (List.map_id' ns).symm.trans (List.map_congr_left fun x hx => ?_)
    obtain ⟨n, _, rfl⟩ := List.mem_map.mp (p.mem_iff.mp hx)
    rfl
  · have := p.map Int.toNat
    rw [List.map_map] at this
    refine this.trans (List.Perm.of_eq ?_)
    exact (List.map_congr_left fun x _ => (Int.toNat_natCast x)).trans (List.map_id' ms)
theorem Ext.over' {H H' : Hp} {p : Addr} {o : HO} (e : Ext (upd H p o) H') (h : H p = Option.none) : Ext H H' := fun b u q => e b u (by rw [upd_ne (ne_of_none q h)]; exact q)
def spRMas : Sp := fun vs H Q _ => ∃ (p : Addr) (ms : List Nat), vs = [.ref p] ∧ LsN H p ms ∧ ms.length ≤ 12 ∧ ∀ (r : Addr) (L : List Nat) (H' : Hp), Ext H H' → H r = none → L.Perm (sumF ms) → L.Pairwise (· ≤ ·) → LsN H' r (rmF L) → Q (.ref r) H'
def spRounds (Pt : Addr) : Sp := fun vs H Q _ => ∃ (T : Addr) (names : List Str) (rows : List (List Str)), vs = [.ref T] ∧ TabIn H T names rows ∧ names.length ≤ 12 ∧ rows.length ≤ 24 ∧ TabW H Pt lpI qI ∧ ∀ (r : Addr) (M L : List Nat) (F : List (List Str)) (H' : Hp), ExtB Pt H H' → H r = none → RowsAt H' r F → M.Perm (red (rows.map (maskF names))) → L.Perm (sumF M) → L.Pairwise (· ≤ ·) → F.Perm ((rmF L).map (rowM names)) → RwO F → TabW H' Pt lpI qI → Q (.ref r) H'
def spWalls (Pt : Addr) : Sp := fun vs H Q _ => ∃ (T : Addr) (names : List Str) (rows : List (List Str)), vs = [.ref T] ∧ TabIn H T names rows ∧ names.length ≤ 12 ∧ rows.length ≤ 24 ∧ TabW H Pt lpI qI ∧ ∀ (r : Addr) (S C M L : List Nat) (F : List (List Str)) (H' : Hp), ExtB Pt H H' → H r = none → RowsAt H' r F → S.Perm (red (rows.map (maskF names))) → C.Perm (red (crAll S names.length)) → M.Perm (red ((C.map (rowM names)).map (maskF names))) → L.Perm (sumF M) → L.Pairwise (· ≤ ·) → F.Perm ((rmF L).map (rowM names)) → RwO F → TabW H' Pt lpI qI → Q (.ref r) H'
def rLenS (K : PySem.W.Frag) : List V → Hp → VK → Prop := fun xs H Q => ∃ p ys, xs = [.ref p] ∧ (SqL K H p ys ∨ SqT K H p ys) ∧ Q (.int ys.length) H
theorem lam_te (K : PySem.W.Frag) (a : Addr) (t : List Str) (H : Hp) (Q : VK) (hs : SqL K H a (t.map V.str)) (q : ∀ k, H k = none → Q (.ref k) (upd H k (.tup [.int t.length, .ref a]))) : (tTup (tCons (tCB (rLenS K) (tCons (tVar 0) tNil)) (tCons (tVar 0) tNil))) [some (.ref a)] H Q := by
  refine ⟨_, rfl, a, _, rfl, .inl hs, _, rfl, (by show 2 ≤ sizeLine; decide), fun k hk => ?_⟩
  rw [List.length_map]
  exact q k hk
theorem paired_two {α β : Type} {R : α → β → Prop} : ∀ {l : List (α × β)}, (∀ x ∈ l, R x.1 x.2) → Paired R (l.map Prod.fst) (l.map Prod.snd)
  | [], _ => .nil
  | x :: l, h => .cons (h x List.mem_cons_self) (paired_two fun y hy => h y (List.mem_cons_of_mem _ hy))
theorem len_lt {l : List Nat} (nd : l.Nodup) {m : Nat} (h : ∀ x ∈ l, x < m) : l.length ≤ m := by
  have p : l.Perm ((List.range m).filter fun x => decide (x ∈ l)) := (List.perm_ext_iff_of_nodup nd (List.nodup_range.sublist List.filter_sublist)).mpr fun a => by
    rw [List.mem_filter, List.mem_range, decide_eq_true_iff]
    exact ⟨fun ha => ⟨h a ha, ha⟩, fun ha => ha.2⟩
  rw [p.length_eq]
  exact Nat.le_trans (List.length_filter_le _ _) (by rw [List.length_range]; exact Nat.le_refl _)
theorem rr_len {M : List Nat} {m : Nat} (h : RR M) (lt : ∀ x ∈ M, x < 2 ^ m) : M.length ≤ m := by
  have := len_lt (ld_nd h) (m := m) fun x hx => by
    obtain ⟨s, hs, rfl⟩ := List.mem_map.mp hx
    exact (Nat.log2_lt (h.nz s hs)).mpr (lt s hs)
  rw [List.length_map] at this
  exact this
theorem masks_lt {names : List Str} (rows : List (List Str)) : ∀ x ∈ rows.map (maskF names), x < 2 ^ names.length := fun x hx => by
  obtain ⟨r, _, rfl⟩ := List.mem_map.mp hx
  exact maskF_lt names r
theorem step_rr {names : List Str} {rows : List (List Str)} {M : List Nat} (p : M.Perm (red (rows.map (maskF names)))) : RR M ∧ (∀ x ∈ M, x < 2 ^ names.length) ∧ M.length ≤ names.length := by
  have rr : RR M := (red_rr _).perm p
  have lt : ∀ x ∈ M, x < 2 ^ names.length := fun x hx => red_lt (masks_lt rows) x (p.mem_iff.mp hx)
  exact ⟨rr, lt, rr_len rr lt⟩
section
variable {P : Program} {w : World} {K : PySem.W.Frag} {mg : Str → Option Value} {base : Heap} {f f1 f2 f3 f4 c Pt : Addr} {fd fd1 fd2 fd3 fd4 : FuncData}
abbrev suN : List Str := ["masks", "told", "mask"]
theorem scSums : FnScope suN ["masks"] (defScope sSums) := ⟨rfl, rfl, rfl, by decide +kernel, rfl, by decide +kernel, by decide +kernel⟩
set_option maxHeartbeats 4000000 in
theorem ok_sums (F : Fun K "sums" "sums" sSums f fd) : FnOk P w K mg base CX0 1 f fd ["masks"] spSums := by
  refine F.ok scSums (fun vs H Q E h => ?_) (fun cdv A outer s H vs Q E hr h => ?_)
  · obtain ⟨p, N, rfl, _⟩ := h
    rfl
  obtain ⟨p, N, rfl, hN, lN, q⟩ := h
  refine ⟨_, pss_cons (ps_set (i := 1) scSums.nd rfl (Or.inl rfl) (pe_lst (pa_cons pe_int pa_nil))) (pss_cons (ps_for PassesOwn.never rfl (pi_list (pv 0)) (pg_name (i := 2) scSums.nd rfl (Or.inr rfl)) (pss_one (ps_set (i := 1) scSums.nd rfl (Or.inl rfl) (pe_op op_cat (pv 1) (pe_lc (N := suN) (sc := defScope sSums) (N' := ["one", "mask"]) (sub := [none, some 2]) rfl rfl (CmpOk.of (by decide +kernel)) rfl (pi_list (pv 1)) (fun C s H fp => ⟨pg_name (i := 0) (by show (["one", "mask"] : List Str).Nodup; decide) rfl (Or.inl rfl), pts_nil, (pe_op op_xor (pv 0) (pv 1))⟩)))))) (pss_one (ps_ret (pv 1)))), ?_⟩
  refine ⟨(by show 1 ≤ sizeLine; decide), fun s0 hs0 => ?_⟩
  have X3 := Ext.new hs0 (.lst [V.int 0])
  refine ⟨_, rfl, p, rfl, ⟨_, SqL.of (X3 _ _ hN)⟩, ?_⟩
  refine for_list (xs := N.map iV) (fun i σ H' => ∃ (ps : Addr) (x2 : Option V), σ = [some (.ref p), some (.ref ps), x2] ∧ Ext H H' ∧ H ps = none ∧ LsN H' ps (sumF (N.take i))) ⟨s0, none, rfl, X3, hs0, upd_same⟩ (fun i σ H' _ h => by obtain ⟨_, _, _, e, _⟩ := h; exact SqL.of (e _ _ hN)) ?_ ?_
  · rintro i v σ H' hx ⟨ps, x2, rfl, e, ps0, hps⟩
    obtain ⟨y, rfl, hy⟩ := iv_get hx
    have hi := at_lt hy
    have lS : (sumF (N.take i)).length ≤ 2048 := by
      rw [sumF_len, List.length_take]
      exact Nat.le_trans (Nat.pow_le_pow_right (by decide) (show min i N.length ≤ 11 by omega)) (by decide)
    refine ⟨_, rfl, _, rfl, ps, rfl, ⟨_, SqL.of hps⟩, ?_⟩
    refine turns_list (xs := (sumF (N.take i)).map iV) (fun j ys H2 => H2 = H' ∧ ys = (((sumF (N.take i)).take j).map fun z => z ^^^ y).map iV) ⟨rfl, rfl⟩ (fun j ys H2 _ h => by rw [h.1]; exact SqL.of hps) ?_ ?_
    · rintro j v ys H3 hx3 ⟨rfl, rfl⟩
      obtain ⟨z, rfl, hz⟩ := iv_get hx3
      have hj := at_lt hz
      refine ⟨Sle.set _ (Sle.refl _) (fun u z => by cases z), iteT (B := False) ⟨_, rfl, _, rfl, _, _, rfl, rfl, ?_⟩⟩
      refine ⟨by rw [List.length_map, List.length_map, List.length_take]; exact small5000 (by omega), nxt (at_lt hx3) ⟨rfl, ?_⟩⟩
      rw [take_snoc hz, List.map_append, List.map_append]
      show _ ++ [V.int (Builtin.bitXor (z : Int) (y : Int))] = _
      rw [bxor_nat]; rfl
    · rintro ys H3 ⟨rfl, rfl⟩ l hl
      rw [List.length_map, List.take_of_length_le (Nat.le_refl _)]
      have Xl := Ext.new hl (.lst (((sumF (N.take i)).map fun z => z ^^^ y).map iV))
      refine ⟨ps, l, _, _, rfl, rfl, Xl _ _ hps, upd_same, by rw [List.length_map, List.length_map, List.length_map]; exact Nat.le_of_lt (small5000 (by omega)), fun l3 hl3 => ?_⟩
      have X4 := Ext.new hl3 (.lst ((sumF (N.take i)).map iV ++ ((sumF (N.take i)).map fun z => z ^^^ y).map iV))
      refine ⟨l3, _, rfl, (e.trans Xl).trans X4, (e.trans Xl).none hl3, ?_⟩
      unfold LsN
      rw [upd_same, take_snoc hy, sumF_snoc, List.map_append]
  rintro σ H3 ⟨ps, x2, rfl, e3, ps0, hps⟩
  rw [List.length_map, List.take_of_length_le (Nat.le_refl _)] at hps
  exact ⟨_, rfl, q ps H3 e3 ps0 hps⟩
theorem scInOrd : FnScope ["rows"] ["rows"] (defScope sInOrd) := ⟨rfl, rfl, rfl, by decide +kernel, rfl, by decide +kernel, by decide +kernel⟩
set_option maxHeartbeats 4000000 in
theorem ok_inOrd (F : Fun K "in_order" "in_order" sInOrd f fd) (hcode : fd.code = .ref c) (hC : PySem.W.CodeHd base c Pt) (hB : base.BuiltinsAt mg Pt) (ml : mg "len" = none) (mso : mg "sorted" = none) : FnOk P w K mg base CX0 3 f fd ["rows"] (spInOrd Pt) := by
  refine F.okC scInOrd (fun vs H Q E h => ?_) (fun A outer s H vs Q E hr2 h => ?_)
  · obtain ⟨p, F, rfl, _⟩ := h
    rfl
  obtain ⟨p, F, rfl, ⟨as, hp, pr⟩, lF, tw, q⟩ := h
  have L : LamAt ((cxOf CX0 P w K mg base ["rows"] "in_order" (defScope sInOrd) f fd.code A outer s H E).nox) c Pt := ⟨hcode, hC, hB⟩
  refine ⟨_, pss_one (ps_ret (pe_sortLamT (k := 0) (x := "row") (te := (tTup (tCons (tCB (rLenS K) (tCons (tVar 0) tNil)) (tCons (tVar 0) tNil)))) L hr2 rfl mso (pa_cons (pv 0) pa_nil) ⟨rfl, rfl, rfl, by decide +kernel, rfl, by decide +kernel, by decide +kernel⟩ rfl rfl (fun _ _ _ _ _ _ => rfl) (fun _ _ _ _ _ _ => (show PE _ _ (tTup (tCons (tCB (rLenS K) (tCons (tVar 0) tNil)) (tCons (tVar 0) tNil))) from (pe_tup (pa_cons (pe_callB (show CallR _ (.builtin "len") (rLenS K) from call_len_seq) rfl ml PySem.boot_len (pa_cons (pv 0) pa_nil)) (pa_cons (pv 0) pa_nil))))) (lam_te K))), ?_⟩
  have la : as.length = F.length := pr.length
  have e1 : (as.zip F).map (fun p => V.ref p.1) = as.map V.ref := by
    have : (as.zip F).map Prod.fst = as := List.map_fst_zip (by omega)
    rw [show (fun p : Addr × List Str => V.ref p.1) = V.ref ∘ Prod.fst from rfl, ← List.map_map, this]
  obtain ⟨tb, hP⟩ := My.TabW.tb tw
  refine ⟨_, rfl, p, as.zip F, rfl, SqL.of (by rw [e1]; exact hp), fun x hx => SqL.of (paired_zip pr x hx), by rw [List.length_zip]; omega, tw, fun r ps' H2 r0 eB hr' pm so tw2 => ?_⟩
  have mem : ∀ x ∈ ps', LsS H2 x.1 x.2 := fun x hx => by
    have h1 : LsS H x.1 x.2 := paired_zip pr x (pm.mem_iff.mp hx)
    exact eB _ _ (fun z => by rw [z] at h1; unfold LsS at h1; rw [hP] at h1; cases h1) h1
  refine q r (ps'.map Prod.snd) H2 eB r0 ⟨ps'.map Prod.fst, by rw [List.map_map]; exact hr', paired_two mem⟩ ?_ (List.pairwise_map.mpr so) tw2
  have := pm.map Prod.snd
  rw [List.map_snd_zip (by omega)] at this
  exact this
abbrev rmN : List Str := ["steps", "told", "mask"]
theorem scRMas : FnScope rmN ["steps"] (defScope sRMas) := ⟨rfl, rfl, rfl, by decide +kernel, rfl, by decide +kernel, by decide +kernel⟩
set_option maxHeartbeats 8000000 in
theorem ok_rmas (F : Fun K "round_masks" "round_masks" sRMas f fd)
    (G1 : FnOk P w K mg base CX0 1 f1 fd1 ["masks"] spSums) (bG1 : Binds K fd1 ["masks"] []) (kG1 : PySem.W.keepIn K (.ref f1) = true) (mG1 : mg "sums" = some (.ref f1))
    (mso : mg "sorted" = none) (man : mg "any" = none) : FnOk P w K mg base CX0 2 f fd ["steps"] spRMas := by
  refine F.ok scRMas (fun vs H Q E h => ?_) (fun cdv A outer s H vs Q E hr1 h => ?_)
  · obtain ⟨p, ms, rfl, _⟩ := h
    rfl
  obtain ⟨p, ms, rfl, hm, lm, q⟩ := h
  refine ⟨_, pss_cons (ps_set (i := 1) scRMas.nd rfl (Or.inl rfl) (pe_lst pa_nil)) (pss_cons (ps_for PassesOwn.never rfl (pi_list (pe_callB call_sortedN rfl mso boot_sorted' (pa_cons (pe_call G1 hr1 rfl mG1 kG1 bG1 .nil pass0 (pa_cons (pv 0) pa_nil)) pa_nil))) (pg_name (i := 2) scRMas.nd rfl (Or.inr rfl)) (pss_one (ps_if (PW.pt (pw_and (pt_cmpR op_ne (pv 2) pe_int (nomark _)) (pw_and1 (pt_not (pt_val (pe_callB (call_anyB rfl) rfl man boot_any' (pa_cons (pe_lc (N := rmN) (sc := defScope sRMas) (N' := ["one", "mask"]) (sub := [none, some 2]) rfl rfl (CmpOk.of (by decide +kernel)) rfl (pi_list (pv 1)) (fun C s H fp => ⟨pg_name (i := 0) (by show (["one", "mask"] : List Str).Nodup; decide) rfl (Or.inl rfl), pts_nil, (pe_cmpR op_eq (pe_op op_and (pv 0) (pv 1)) (pv 0) (nomark _))⟩)) pa_nil))))))) (pss_one (ps_expr (pe_bm PySem.F.plainAttrs_list PySem.F.slot_list_append PySem.F.type_list_append mt_append (pv 1) (pa_cons (pv 2) pa_nil)))) pss_nil))) (pss_one (ps_ret (pv 1)))), ?_⟩
  refine ⟨Nat.zero_le _, fun tl htl => ?_⟩
  have X0 := Ext.new htl (.lst [])
  refine ⟨_, rfl, p, ms, rfl, X0 _ _ hm, lm, fun sp H1 e1 _ hs1 => ?_⟩
  have lS : (sumF ms).length ≤ 4096 := by
    rw [sumF_len]
    exact Nat.le_trans (Nat.pow_le_pow_right (by decide) lm) (by decide)
  refine ⟨sp, (sumF ms).map (fun n : Nat => (n : Int)), rfl, SqL.of (by rw [← iv_ints]; exact hs1), by rw [List.length_map]; omega, fun rl ns' hrl pm so => ?_⟩
  obtain ⟨L, rfl, pL⟩ := nat_ints pm
  have so' : L.Pairwise (· ≤ ·) := (List.pairwise_map.mp so).imp fun {a b} z => Int.ofNat_le.mp z
  have lL : L.length ≤ 4096 := by rw [pL.length_eq]; exact lS
  have X2 := Ext.new hrl (.lst ((L.map fun n : Nat => (n : Int)).map V.int))
  have hr2 : LsN (upd H1 rl (.lst ((L.map fun n : Nat => (n : Int)).map V.int))) rl L := by unfold LsN; rw [upd_same, iv_ints]
  have ht2 : LsN (upd H1 rl (.lst ((L.map fun n : Nat => (n : Int)).map V.int))) tl [] := X2 _ _ (e1 _ _ upd_same)
  have E2 := (e1.trans X2).over' htl
  revert hr2 ht2 E2
  generalize upd H1 rl (.lst ((L.map fun n : Nat => (n : Int)).map V.int)) = H2
  intro hr2 ht2 E2
  have tr : tl ≠ rl := fun z => by
    have h1 := e1 _ _ (show upd H tl (.lst []) tl = some (.lst []) from upd_same)
    rw [z, hrl] at h1; cases h1
  refine ⟨rl, rfl, ⟨_, SqL.of hr2⟩, ?_⟩
  refine for_list (xs := L.map iV) (fun i σ H' => ∃ x2 : Option V, σ = [some (.ref p), some (.ref tl), x2] ∧ Ext H H' ∧ LsN H' rl L ∧ LsN H' tl (rmF (L.take i))) ⟨none, rfl, E2, hr2, ht2⟩ (fun i σ H' _ h => by obtain ⟨_, _, _, h, _⟩ := h; exact SqL.of h) ?_ ?_
  · rintro i v σ H' hx ⟨x2, rfl, e, hr', ht'⟩
    obtain ⟨m, rfl, hmi⟩ := iv_get hx
    have hi := at_lt hmi
    have sz : (rmF (L.take i)).length ≤ 4096 := by
      have := rmF_len (L.take i)
      rw [List.length_take] at this
      omega
    rw [take_snoc hmi, rmF_snoc]
    have nz : (!decide (V.int (m : Int) = V.int 0)) = !decide (m = 0) := by
      congr 1
      exact decide_eq_decide.mpr ⟨fun h => by have := V.int.inj h; omega, fun h => by rw [h]; rfl⟩
    refine ⟨_, rfl, rfl, _, rfl, ?_⟩
    rw [nz]
    cases m0 : decide (m = 0) with
    | true =>
      have : rmS (rmF (L.take i)) m = rmF (L.take i) := by
        unfold rmS rmOk
        rw [m0]; rfl
      rw [this]
      rw [if_neg (by decide)]
      exact iteF ⟨_, rfl, e, hr', ht'⟩
    | false =>
      rw [if_pos (by decide)]
      refine ⟨_, rfl, tl, rfl, ⟨_, SqL.of ht'⟩, ?_⟩
      refine turns_list (xs := (rmF (L.take i)).map iV) (fun j ys H3 => H3 = H' ∧ ys = (((rmF (L.take i)).take j).map fun o => decide (o &&& m = o)).map V.bl) ⟨rfl, rfl⟩ (fun j ys H3 _ h => by rw [h.1]; exact SqL.of ht') ?_ ?_
      · rintro j v ys H3 hx3 ⟨rfl, rfl⟩
        obtain ⟨o, rfl, ho⟩ := iv_get hx3
        have hj := at_lt ho
        refine ⟨Sle.set _ (Sle.refl _) (fun u z => by cases z), iteT (B := False) ⟨_, rfl, _, rfl, _, _, rfl, rfl, _, rfl, rfl, ?_⟩⟩
        refine ⟨by rw [List.length_map, List.length_map, List.length_take]; exact small5000 (by omega), nxt (at_lt hx3) ⟨rfl, ?_⟩⟩
        rw [take_snoc ho, List.map_append, List.map_append]
        show _ ++ [V.bl (decide (V.int (Builtin.bitAnd (o : Int) (m : Int)) = V.int (o : Int)))] = _
        have eo : decide (V.int ((o &&& m : Nat) : Int) = V.int (o : Int)) = decide (o &&& m = o) := decide_eq_decide.mpr ⟨fun h => Int.ofNat.inj (V.int.inj h), fun h => by rw [h]⟩
        rw [band_nat, eo]
        rfl
      · rintro ys H3 ⟨rfl, rfl⟩ bl hbl
        rw [List.length_map, List.take_of_length_le (Nat.le_refl _)]
        have Xb := Ext.new hbl (.lst (((rmF (L.take i)).map fun o => decide (o &&& m = o)).map V.bl))
        refine ⟨bl, _, rfl, SqL.of upd_same, _, rfl, ?_⟩
        have ea : ((rmF (L.take i)).map fun o => decide (o &&& m = o)).any id = (rmF (L.take i)).any fun o => decide (o &&& m = o) := by rw [List.any_map]; rfl
        rw [ea]
        have ok : rmOk (rmF (L.take i)) m = !((rmF (L.take i)).any fun o => decide (o &&& m = o)) := by
          unfold rmOk
          rw [m0]; rfl
        refine ite2 (fun c => ?_) (fun c => ?_)
        · refine ⟨_, rfl, .inl ⟨rfl, _, SqL.of (Xb _ _ ht')⟩, _, rfl, tl, _, _, rfl, rfl, Xb _ _ ht', (by rw [List.length_map]; exact small5000 (by omega)), ?_⟩
          refine ⟨_, rfl, (e.trans Xb).over htl _, ?_, ?_⟩
          · unfold LsN
            rw [upd_ne (Ne.symm tr)]; exact Xb _ _ hr'
          · unfold LsN rmS
            rw [upd_same, ok, if_pos c, List.map_append]; rfl
        · refine ⟨_, rfl, e.trans Xb, Xb _ _ hr', ?_⟩
          unfold rmS
          rw [ok, if_neg c]
          exact Xb _ _ ht'
  rintro σ H3 ⟨x2, rfl, e3, hr3, ht3⟩
  rw [List.length_map, List.take_of_length_le (Nat.le_refl _)] at ht3
  exact ⟨_, rfl, q tl L H3 e3 htl pL so' ht3⟩
theorem scRounds : FnScope ["table"] ["table"] (defScope sRounds) := ⟨rfl, rfl, rfl, by decide +kernel, rfl, by decide +kernel, by decide +kernel⟩
set_option maxHeartbeats 4000000 in
theorem ok_rounds (F : Fun K "rounds" "rounds" sRounds f fd)
    (G1 : FnOk P w K mg base CX0 3 f1 fd1 ["rows"] (spInOrd Pt)) (bG1 : Binds K fd1 ["rows"] []) (kG1 : PySem.W.keepIn K (.ref f1) = true) (mG1 : mg "in_order" = some (.ref f1))
    (G2 : FnOk P w K mg base CX0 2 f2 fd2 ["steps"] spRMas) (bG2 : Binds K fd2 ["steps"] []) (kG2 : PySem.W.keepIn K (.ref f2) = true) (mG2 : mg "round_masks" = some (.ref f2))
    (G3 : FnOk P w K mg base CX0 3 f3 fd3 ["table"] spStepM) (bG3 : Binds K fd3 ["table"] []) (kG3 : PySem.W.keepIn K (.ref f3) = true) (mG3 : mg "step_masks" = some (.ref f3))
    (G4 : FnOk P w K mg base CX0 1 f4 fd4 ["names", "mask"] spRowOf) (bG4 : Binds K fd4 ["names", "mask"] []) (kG4 : PySem.W.keepIn K (.ref f4) = true) (mG4 : mg "row_of" = some (.ref f4)) : FnOk P w K mg base CX0 4 f fd ["table"] (spRounds Pt) := by
  refine F.ok scRounds (fun vs H Q E h => ?_) (fun cdv A outer s H vs Q E hr3 h => ?_)
  · obtain ⟨T, names, rows, rfl, _⟩ := h
    rfl
  obtain ⟨T, names, rows, rfl, ti, ln, lr, tw, q⟩ := h
  have hr1 := hr3.mono (j := 1) (by decide)
  have hr2 := hr3.mono (j := 2) (by decide)
  refine ⟨_, pss_one (ps_ret (pe_call G1 hr3 rfl mG1 kG1 bG1 .nil pass0 (pa_cons (pe_lc (N := ["table"]) (sc := defScope sRounds) (N' := ["mask", "table"]) (sub := [none, some 0]) rfl rfl (CmpOk.of (by decide +kernel)) rfl (pi_list (pe_call G2 hr2 rfl mG2 kG2 bG2 .nil pass0 (pa_cons (pe_call G3 hr3 rfl mG3 kG3 bG3 .nil pass0 (pa_cons (pv 0) pa_nil)) pa_nil))) (fun C s H fp => ⟨pg_name (i := 0) (by show (["mask", "table"] : List Str).Nodup; decide) rfl (Or.inl rfl), pts_nil, (pe_call G4 hr1 rfl mG4 kG4 bG4 .nil pass0 (pa_cons (pe_ix (show IxR _ (rIxT K) from ix_tup) (pv 1) pe_int (fun _ _ => rfl)) (pa_cons (pv 0) pa_nil)))⟩)) pa_nil))), ?_⟩
  obtain ⟨na, nb, hT, hna, _⟩ := id ti
  refine ⟨_, rfl, T, names, rows, rfl, ti, lr, fun sm M H1 e1 _ hM pM dM => ?_⟩
  obtain ⟨_, _, lM⟩ := step_rr pM
  refine ⟨sm, M, rfl, hM, by omega, fun rm L H2 e2 _ pL so hL => ?_⟩
  have E2 := e1.trans e2
  have lL : (rmF L).length ≤ 4096 := by
    refine Nat.le_trans (rmF_len L) ?_
    rw [pL.length_eq, sumF_len]
    exact Nat.le_trans (Nat.pow_le_pow_right (by decide) (show M.length ≤ 12 by omega)) (by decide)
  refine ⟨rm, rfl, ⟨_, SqL.of hL⟩, ?_⟩
  refine turns_list (xs := (rmF L).map iV) (fun j ys H3 => Ext H2 H3 ∧ ∃ as, ys = as.map V.ref ∧ Paired (LsS H3) as (((rmF L).take j).map (rowM names))) ⟨Ext.refl _, [], rfl, .nil⟩ (fun j ys H3 _ h => SqL.of (h.1 _ _ hL)) ?_ ?_
  · rintro j v ys H3 hx ⟨e3, as, rfl, pr⟩
    obtain ⟨x, rfl, hx'⟩ := iv_get hx
    have hj := at_lt hx'
    have la : as.length = _ := pr.length
    rw [List.length_map, List.length_take] at la
    have E3 := E2.trans e3
    refine ⟨Sle.set _ (Sle.refl _) (fun u z => by cases z), iteT (B := False) ⟨_, rfl, T, _, _, _, rfl, rfl, SqT.of (E3 _ _ hT), (by exact atI_nat (j := 0) rfl), _, rfl, na, names, x, rfl, E3 _ _ hna, ln, fun r4 H4 e4 r40 h4 => ⟨?_, nxt (at_lt hx) ⟨e3.trans e4, as ++ [r4], by rw [List.map_append]; rfl, ?_⟩⟩⟩⟩
    · rw [List.length_map]; exact small5000 (by omega)
    · rw [take_snoc hx', List.map_append]
      exact Paired.snoc (Paired.mapP pr fun a t z => e4 _ _ z) h4
  · rintro ys H3 ⟨e3, as, rfl, pr⟩ b hb
    rw [List.length_map, List.take_of_length_le (Nat.le_refl _)] at pr
    have Xb := Ext.new hb (.lst (as.map V.ref))
    have E4 := (E2.trans e3).trans Xb
    refine ⟨b, (rmF L).map (rowM names), rfl, ⟨as, upd_same, Paired.mapP pr fun a t z => Xb _ _ z⟩, by rw [List.length_map]; omega, My.TabW.extE tw E4, fun r F H5 eB r0 hr' pF soF tw5 => ?_⟩
    exact q r M L F H5 (ExtB.trans E4.toB eB) (E4.none r0) hr' pM pL so pF soF tw5
theorem scWalls : FnScope ["table"] ["table"] (defScope sWalls) := ⟨rfl, rfl, rfl, by decide +kernel, rfl, by decide +kernel, by decide +kernel⟩
set_option maxHeartbeats 4000000 in
theorem ok_walls (F : Fun K "walls" "walls" sWalls f fd)
    (G1 : FnOk P w K mg base CX0 4 f1 fd1 ["table"] (spRounds Pt)) (bG1 : Binds K fd1 ["table"] []) (kG1 : PySem.W.keepIn K (.ref f1) = true) (mG1 : mg "rounds" = some (.ref f1))
    (G2 : FnOk P w K mg base CX0 4 f2 fd2 ["table"] spCross) (bG2 : Binds K fd2 ["table"] []) (kG2 : PySem.W.keepIn K (.ref f2) = true) (mG2 : mg "crossed" = some (.ref f2)) : FnOk P w K mg base CX0 5 f fd ["table"] (spWalls Pt) := by
  refine F.ok scWalls (fun vs H Q E h => ?_) (fun cdv A outer s H vs Q E hr4 h => ?_)
  · obtain ⟨T, names, rows, rfl, _⟩ := h
    rfl
  obtain ⟨T, names, rows, rfl, ti, ln, lr, tw, q⟩ := h
  refine ⟨_, pss_one (ps_ret (pe_call G1 hr4 rfl mG1 kG1 bG1 .nil pass0 (pa_cons (pe_call G2 hr4 rfl mG2 kG2 bG2 .nil pass0 (pa_cons (pv 0) pa_nil)) pa_nil))), ?_⟩
  refine ⟨_, rfl, T, names, rows, rfl, ti, ln, lr, fun T2 S C H1 e1 t0 tf pS pC dC => ?_⟩
  obtain ⟨rrS, ltS, _⟩ := step_rr pS
  have lc : ∀ x ∈ crAll S names.length, x < 2 ^ names.length := fun x hx => ((cr_spn rrS ltS x).mp (.mem hx)).1
  have lC : C.length ≤ names.length := rr_len ((red_rr _).perm pC) fun x hx => red_lt lc x (pC.mem_iff.mp hx)
  refine ⟨T2, names, C.map (rowM names), rfl, tf.tin, ln, by rw [List.length_map]; omega, My.TabW.extE tw e1, fun r M L F H2 eB r0 hr' pM pL so pF soF tw2 => ?_⟩
  exact q r S C M L F H2 (ExtB.trans e1.toB eB) (e1.none r0) hr' pS pC pM pL so pF soF tw2
end
end My
namespace L2
open PySem PySem.Spec PyProof.Rows PySem.SeqAt
def rInD (K : PySem.W.Frag) : R2 := fun x y H Q => ∃ ds d, DR K H y (.list ds) ∧ DR K H x d ∧ shaped (.list ds) = true ∧ shaped d = true ∧ Q (.bl (ds.any fun z => PyData.eqv z d)) H
theorem op_inD {X : Cx} (hu : X.A.units + 65 < cLine) : OpR X (compareOp .In) (rInD X.K) := by
  intro pins s σ H x y v u Q I rx ry h
  obtain ⟨ds, d, hy, hx, sy, sx, q⟩ := h
  obtain ⟨a1, r1⟩ := DR.reads I hx rx
  obtain ⟨a2, r2⟩ := DR.reads I hy ry
  exact in_list_reads r2 r1 (canLay_of_shaped sy) (canLay_of_shaped sx) (room_in_shaped sx hu) ⟨.bl _, H, I, rfl, q⟩
end L2
namespace My
open PySem L2
def tCutE (t : TS) : TS := fun D σ H => ∃ Pm : St → Hp → Prop, t { D with nx := Pm } σ H ∧ ∀ σ' H', Pm σ' H' → D.nx σ' H'
theorem ps_cutE {X : Cx} {st : Stmt} {t : TS} (h : PS X st t) : PS X st (tCutE t) := by
  intro pins s σ H D I hw
  obtain ⟨Pm, h1, h2⟩ := hw
  refine thn (h pins s σ H { D with nx := Pm } I h1) fun fl s' q => ?_
  cases fl with
  | next => obtain ⟨σ', H', I', q⟩ := q; exact ⟨σ', H', I', h2 σ' H' q⟩
  | brk => exact q
  | cont => exact q
  | ret _ => exact q
theorem room65 {k : Nat} {A : Around} (hr : Room k A) : A.units + 65 < cLine := by have := hr.un; omega
def spLaw (K : PySem.W.Frag) (Pt : Addr) : Sp := fun vs H Q _ => ∃ (a : Addr) (ns : List Int), vs = [.ref a] ∧ SqL K H a (ns.map V.int) ∧ ns.length ≤ 63 ∧ H Pt = some (.tbl #[]) ∧ ∀ H', Q (.bl true) H'
abbrev scI : Scope := { kind := .function, names := [(".0", .local), ("_law_row", .local), ("len", .globalImplicit), ("_law_found", .cell)], isGenerator := false, isCoroutine := false }
theorem zz_ok : ∀ n : Int, 1 ≤ n → n ≤ 6 → PyData.strOk (Txt.mul "z" n) = true := fun n h1 h2 => by
  have : n = 1 ∨ n = 2 ∨ n = 3 ∨ n = 4 ∨ n = 5 ∨ n = 6 := by omega
  rcases this with rfl | rfl | rfl | rfl | rfl | rfl <;> decide +kernel
theorem cut_ok {net : List Tr} (h : TxN net) (S : List Str) : SOk (cutF net S) := fun n hn => by
  obtain ⟨t, ht, rfl⟩ := List.mem_map.mp hn
  exact (h t (List.mem_filter.mp ht).1).1.ok
theorem rowL_sub {names : List Str} {x : Nat} {n : Str} (h : n ∈ rowL names x) : n ∈ names := by
  unfold rowL at h
  obtain ⟨i, _, e⟩ := List.mem_filterMap.mp h
  split at e
  · exact List.mem_of_getElem? e
  · cases e
theorem rowL_le (names : List Str) (x : Nat) : (rowL names x).length ≤ names.length := by
  unfold rowL
  have := List.length_filterMap_le (fun i => if x.testBit i = true then names[i]? else none) (List.range names.length)
  rw [List.length_range] at this
  exact this
theorem rowM_le (names : List Str) (x : Nat) : (rowM names x).length ≤ names.length := by
  unfold rowM
  have := List.length_filterMap_le (fun i => if x.testBit (names.length - 1 - i) = true then names[i]? else none) (List.range names.length)
  rw [List.length_range] at this
  exact this
theorem pts_ok {net : List Tr} {ps : List Str} (h : TxN net) (pk : PtsOk net ps) : SOk ps := fun x hx => by
  obtain ⟨t, ht, e⟩ := (pk.2 x).mp hx
  rcases e with e | e
  · rw [e]; exact (h t ht).2.1.ok
  · rw [e]; exact (h t ht).2.2.ok
theorem pts_ten {net : List Tr} {ps : List Str} (h : PtB net) (pk : PtsOk net ps) : ps.length ≤ 10 := by
  obtain ⟨kn, l, hk⟩ := h
  refine Nat.le_trans (List.Nodup.length_le_of_subset pk.1 fun x hx => ?_) l
  obtain ⟨t, ht, e⟩ := (pk.2 x).mp hx
  rcases e with e | e
  · rw [e]; exact (hk t ht).1
  · rw [e]; exact (hk t ht).2
theorem any_rows (F : List (List Str)) (r : List Str) : ((F.map rowD).any fun z => PyData.eqv z (rowD r)) = decide (r ∈ F) := by
  rw [List.any_map, Bool.eq_iff_iff, List.any_eq_true, decide_eq_true_iff]
  constructor
  · rintro ⟨x, hx, e⟩
    have e' : PyData.eqv (rowD x) (rowD r) = true := e
    rw [eqv_row] at e'
    rw [← of_decide_eq_true e']; exact hx
  · intro h
    exact ⟨r, h, by show PyData.eqv (rowD r) (rowD r) = true; rw [eqv_row]; exact decide_eq_true rfl⟩
theorem wall_cut {net : List Tr} {ps : List Str} (rs : Rise (nmS net)) (pk : PtsOk net ps) {S M S2 C M2 L : List Nat} (pS : S.Perm (red (ps.map fun x => maskF (nmS net) (metF net x)))) (pM : M.Perm (red (crAll S net.length)))
    (pS2 : S2.Perm (red ((M.map (rowM (nmS net))).map (maskF (nmS net))))) (pC : C.Perm (red (crAll S2 (nmS net).length))) (pM2 : M2.Perm (red ((C.map (rowM (nmS net))).map (maskF (nmS net))))) (pL : L.Perm (sumF M2)) {z : Nat} (hz : z ∈ rmF L) :
    ∃ n, n < 2 ^ ps.length ∧ cutF net (rowL ps n) = rowM (nmS net) z := by
  have nd := riseNd rs
  have ln : (nmS net).length = net.length := List.length_map ..
  rw [ln] at pC
  have rrS : RR S := (red_rr _).perm pS
  have ltS : ∀ s ∈ S, s < 2 ^ net.length := fun s hs => red_lt (fun x hx => by
    obtain ⟨y, _, rfl⟩ := List.mem_map.mp hx
    have := maskF_lt (nmS net) (metF net y)
    rw [ln] at this; exact this) s (pS.mem_iff.mp hs)
  have back : ∀ {A : List Nat}, (∀ x ∈ A, x < 2 ^ net.length) → (A.map (rowM (nmS net))).map (maskF (nmS net)) = A := fun {A} hA => by
    rw [List.map_map]
    refine (List.map_congr_left fun x hx => ?_).trans (List.map_id' A)
    exact maskF_row nd (by rw [ln]; exact hA x hx)
  have perm_spn : ∀ {A B : List Nat}, A.Perm B → ∀ y, Spn A y → Spn B y := fun p y h => h.mono fun x hx => .mem (p.mem_iff.mp hx)
  have ltM : ∀ x ∈ M, x < 2 ^ net.length := fun x hx => red_lt (fun y hy => ((cr_spn rrS ltS y).mp (.mem hy)).1) x (pM.mem_iff.mp hx)
  rw [back ltM] at pS2
  have rrS2 : RR S2 := (red_rr _).perm pS2
  have ltS2 : ∀ s ∈ S2, s < 2 ^ net.length := fun s hs => red_lt ltM s (pS2.mem_iff.mp hs)
  have ltC : ∀ x ∈ C, x < 2 ^ net.length := fun x hx => red_lt (fun y hy => ((cr_spn rrS2 ltS2 y).mp (.mem hy)).1) x (pC.mem_iff.mp hx)
  rw [back ltC] at pM2
  have z1 : Spn M2 z := (sumF_spn M2 z).mp (pL.mem_iff.mp (rmF_mem L z hz).1)
  have z2 : Spn C z := (red_spn C z).mp (perm_spn pM2 z z1)
  have z3 := (cr_spn rrS2 ltS2 z).mp ((red_spn _ z).mp (perm_spn pC z z2))
  have z4 : Spn S z := dd rrS ltS z3.1 fun y hy => by
    have y1 : Spn M y := perm_spn pM.symm y ((red_spn _ y).mpr (.mem hy))
    have y2 : Spn S2 y := perm_spn pS2.symm y ((red_spn M y).mpr y1)
    exact spn_dot z3.2 y2
  exact cut_num nd pk ((red_spn _ z).mp (perm_spn pS z z4))
theorem tab_even {net : List Tr} {ps : List Str} (rs : Rise (nmS net)) (pk : PtsOk net ps) {S M : List Nat} (pS : S.Perm (red (ps.map fun x => maskF (nmS net) (metF net x)))) (pM : M.Perm (red (crAll S net.length))) {r : List Str} (hr : r ∈ M.map (rowM (nmS net))) (A : List Str) : (r.filter fun n => decide (n ∈ cutF net A)).length % 2 = 0 := by
  obtain ⟨z, hz, rfl⟩ := List.mem_map.mp hr
  have nd := riseNd rs
  have ln : (nmS net).length = net.length := List.length_map ..
  have rrS : RR S := (red_rr _).perm pS
  have ltS : ∀ s ∈ S, s < 2 ^ net.length := fun s hs => red_lt (fun x hx => by
    obtain ⟨y, _, rfl⟩ := List.mem_map.mp hx
    have := maskF_lt (nmS net) (metF net y)
    rw [ln] at this; exact this) s (pS.mem_iff.mp hs)
  have z1 := (cr_spn rrS ltS z).mp ((red_spn _ z).mp (.mem (pM.mem_iff.mp hz)))
  refine cut_even nd pk z1.1 (fun x hx => ?_) A
  have : Spn S (maskF (nmS net) (metF net x)) := ((red_spn _ _).mpr (.mem (List.mem_map.mpr ⟨x, hx, rfl⟩))).mono fun y hy => .mem (pS.mem_iff.mpr hy)
  exact spn_dot z1.2 this
section
variable {P : Program} {w : World} {K : PySem.W.Frag} {mg : Str → Option Value} {base : Heap} {f f1 f2 f3 f4 f5 f6 f7 f8 Pt : Addr} {fd fd1 fd2 fd3 fd4 fd5 fd6 fd7 fd8 : FuncData}
abbrev laN : List Str := ["_law_script", "_law_net_here", "_law_knots", "_law_handed", "_law_table", "_law_k", "_law_big_here", "_law_some", "_law_asked", "_law_turn", "_law_found", "_law_cuts"]
theorem scLaw : FnScope laN ["_law_script"] (defScope sLaw) := ⟨rfl, rfl, rfl, by decide +kernel, rfl, by decide +kernel, by decide +kernel⟩
set_option maxHeartbeats 16000000 in
theorem ok_law (F : Fun K "law" "law" sLaw f fd)
    (G1 : FnOk P w K mg base CX0 3 f1 fd1 ["_law_script", "_law_at"] (spNet K)) (bG1 : Binds K fd1 ["_law_script", "_law_at"] []) (kG1 : PySem.W.keepIn K (.ref f1) = true) (mG1 : mg "_law_net" = some (.ref f1))
    (G2 : FnOk P w K mg base CX0 1 f2 fd2 ["_law_net_here"] spPoints) (bG2 : Binds K fd2 ["_law_net_here"] []) (kG2 : PySem.W.keepIn K (.ref f2) = true) (mG2 : mg "_law_points" = some (.ref f2))
    (G3 : FnOk P w K mg base CX0 5 f3 fd3 ["net"] spTable) (bG3 : Binds K fd3 ["net"] []) (kG3 : PySem.W.keepIn K (.ref f3) = true) (mG3 : mg "table_of" = some (.ref f3))
    (G4 : FnOk P w K mg base CX0 2 f4 fd4 ["_law_script", "_law_k"] (spBig K)) (bG4 : Binds K fd4 ["_law_script", "_law_k"] []) (kG4 : PySem.W.keepIn K (.ref f4) = true) (mG4 : mg "_law_big" = some (.ref f4))
    (G5 : FnOk P w K mg base CX0 1 f5 fd5 ["_law_knots", "_law_number"] spLRow) (bG5 : Binds K fd5 ["_law_knots", "_law_number"] []) (kG5 : PySem.W.keepIn K (.ref f5) = true) (mG5 : mg "_law_row_of" = some (.ref f5))
    (G6 : FnOk P w K mg base CX0 1 f6 fd6 ["net", "some"] spCut) (bG6 : Binds K fd6 ["net", "some"] []) (kG6 : PySem.W.keepIn K (.ref f6) = true) (mG6 : mg "cut" = some (.ref f6))
    (G7 : FnOk P w K mg base CX0 1 f7 fd7 ["_law_net_here", "_law_some"] spCut) (bG7 : Binds K fd7 ["_law_net_here", "_law_some"] []) (kG7 : PySem.W.keepIn K (.ref f7) = true) (mG7 : mg "_law_cut" = some (.ref f7))
    (G8 : FnOk P w K mg base CX0 5 f8 fd8 ["table"] (spWalls Pt)) (bG8 : Binds K fd8 ["table"] []) (kG8 : PySem.W.keepIn K (.ref f8) = true) (mG8 : mg "walls" = some (.ref f8))
    (mr : mg "range" = none) (mL : mg "list" = none) (ml : mg "len" = none) (mso : mg "sorted" = none) (mst : mg "set" = none) (mi : mg "isinstance" = none) (mal : mg "all" = none) : FnOk P w K mg base CX0 6 f fd ["_law_script"] (spLaw K Pt) := by
  refine F.ok scLaw (fun vs H Q E h => ?_) (fun cdv A outer s H vs Q E hr5 h => ?_)
  · obtain ⟨a, ns, rfl, _⟩ := h
    rfl
  obtain ⟨a, ns, rfl, hS, hl, hP, q⟩ := h
  have hr1 := hr5.mono (j := 1) (by decide)
  have hr2 := hr5.mono (j := 2) (by decide)
  have hr3 := hr5.mono (j := 3) (by decide)
  refine ⟨_, pss_cons (ps_set (i := 1) scLaw.nd rfl (Or.inr rfl) (pe_call G1 hr3 rfl mG1 kG1 bG1 .nil pass0 (pa_cons (pv 0) (pa_cons pe_int pa_nil)))) (pss_cons (ps_set (i := 2) scLaw.nd rfl (Or.inr rfl) (pe_call G2 hr1 rfl mG2 kG2 bG2 .nil pass0 (pa_cons (pv 1) pa_nil))) (pss_cons (ps_set (i := 3) scLaw.nd rfl (Or.inl rfl) (pe_callTy call_list_of rfl mL boot_list' (pa_cons (pv 1) pa_nil))) (pss_cons (ps_set (i := 4) scLaw.nd rfl (Or.inl rfl) (pe_call G3 hr5 rfl mG3 kG3 bG3 .nil pass0 (pa_cons (pe_callTy call_list_of rfl mL boot_list' (pa_cons (pv 1) pa_nil)) pa_nil))) (pss_cons (ps_for PassesOwn.never rfl (pi_range1 rfl mr (pa_cons pe_int pa_nil)) (pg_name (i := 5) scLaw.nd rfl (Or.inl rfl)) (pss_cons (ps_set (i := 6) scLaw.nd rfl (Or.inl rfl) (pe_call G4 hr2 rfl mG4 kG4 bG4 .nil pass0 (pa_cons (pv 0) (pa_cons (pe_op op_add pe_int (pv 5)) pa_nil)))) (pss_cons (ps_set (i := 7) scLaw.nd rfl (Or.inl rfl) (pe_call G5 hr1 rfl mG5 kG5 bG5 .nil pass0 (pa_cons (pv 2) (pa_cons (pe_op op_mod (pv 6) pe_int) pa_nil)))) (pss_cons (ps_cutE (ps_if (pt_cmpR op_eq (pe_op op_mod (pe_op op_fdiv (pv 6) pe_int) pe_int) pe_int (nomark _)) (pss_one (ps_set (i := 7) scLaw.nd rfl (Or.inl rfl) (pe_callB call_sortedS rfl mso boot_sorted' (pa_cons (pe_op op_cat (pv 7) (pe_lst (pa_cons (pe_op op_mul_str pe_str (pe_op op_add pe_int (pe_op op_mod (pe_op op_fdiv (pv 6) pe_int) pe_int))) pa_nil))) pa_nil)))) pss_nil)) (pss_cons (ps_cutE (ps_set (i := 7) scLaw.nd rfl (Or.inl rfl) (pe_callB (call_sortedSet rfl) rfl mso boot_sorted' (pa_cons (pe_callTy (call_setS rfl) rfl mst boot_set' (pa_cons (pv 7) pa_nil)) pa_nil)))) (pss_cons (ps_set (i := 8) scLaw.nd rfl (Or.inl rfl) (pe_callTy call_list_of rfl mL boot_list' (pa_cons (pv 7) pa_nil))) (pss_one (ps_for PassesOwn.never rfl (pi_range1 rfl mr (pa_cons pe_int pa_nil)) (pg_name (i := 9) scLaw.nd rfl (Or.inl rfl)) (pss_cons (ps_set (i := 10) scLaw.nd rfl (Or.inr rfl) (pe_call G6 hr1 rfl mG6 kG6 bG6 .nil pass0 (pa_cons (pv 3) (pa_cons (pv 8) pa_nil)))) (pss_cons (ps_if (PW.pt (pw_or (pt_not (pt_val (pe_callB call_isinst rfl mi boot_isinst (pa_cons (pv 10) (pa_cons (pe_bltn (v := .ty "list") rfl mL boot_list' rfl) pa_nil))))) (pw_or (pt_cmpR (op_neD (room64 hr5)) (pv 10) (pe_call G7 hr1 rfl mG7 kG7 bG7 .nil pass0 (pa_cons (pv 1) (pa_cons (pv 7) pa_nil))) (nomark _)) (pw_or (pt_cmpR (op_neD (room64 hr5)) (pv 8) (pv 7) (nomark _)) (pw_or1 (pt_cmpR (op_neD (room64 hr5)) (pv 3) (pv 1) (nomark _))))))) (pss_one (ps_ret pe_bl)) pss_nil) (pss_cons (ps_if (pt_not (pt_val (pe_callB (call_allB rfl) rfl mal boot_all' (pa_cons (pe_lc (N := laN) (sc := defScope sLaw) (N' := ["_law_row", "_law_found"]) (sub := [none, some 10]) rfl rfl (CmpOk.of (by decide +kernel)) rfl (pi_list (pe_ix ix_tup (pv 4) pe_int (fun _ _ => rfl))) (fun C s H fp => ⟨pg_name (i := 0) (by show (["_law_row", "_law_found"] : List Str).Nodup; decide) rfl (Or.inl rfl), pts_nil, (pe_cmpR op_eq (pe_op op_mod (pe_callB (show CallR _ (.builtin "len") (rLenS K) from call_len_seq) rfl ml PySem.boot_len (pa_cons (pe_lc (N := ["_law_row", "_law_found"]) (sc := scI) (N' := ["_law_name", "_law_found"]) (sub := [none, some 1]) rfl rfl (CmpOk.of (by decide +kernel)) rfl (show PI _ _ _ (iList K (tVar 0)) from pi_list (pv 0)) (fun C s H fp => ⟨pg_name (i := 0) (by show (["_law_name", "_law_found"] : List Str).Nodup; decide) rfl (Or.inl rfl), pts_one (pt_cmpR (show OpR _ (compareOp .In) (rIn K false) from op_in_seq) (pv 0) (pv 1) (by with_unfolding_all rfl)), pv 0⟩)) pa_nil)) pe_int) pe_int (nomark _))⟩)) pa_nil)))) (pss_one (ps_ret pe_bl)) pss_nil) (pss_one (ps_expr (pe_bm PySem.F.plainAttrs_list PySem.F.slot_list_append PySem.F.type_list_append mt_append (pv 10) (pa_cons pe_str pa_nil))))))))))))))) (pss_cons (ps_set (i := 11) scLaw.nd rfl (Or.inr rfl) (pe_lc (N := laN) (sc := defScope sLaw) (N' := ["_law_number", "_law_knots", "_law_net_here"]) (sub := [none, some 2, some 1]) rfl rfl (CmpOk.of (by decide +kernel)) rfl (pi_range1 rfl mr (pa_cons (pe_op op_shl pe_int (pe_callB call_len_seq rfl ml PySem.boot_len (pa_cons (pv 2) pa_nil))) pa_nil)) (fun C s H fp => ⟨pg_name (i := 0) (by show (["_law_number", "_law_knots", "_law_net_here"] : List Str).Nodup; decide) rfl (Or.inl rfl), pts_nil, (pe_call G7 hr1 rfl mG7 kG7 bG7 .nil pass0 (pa_cons (pv 2) (pa_cons (pe_call G5 hr1 rfl mG5 kG5 bG5 .nil pass0 (pa_cons (pv 1) (pa_cons (pv 0) pa_nil))) pa_nil)))⟩))) (pss_one (ps_ret (pe_callB (call_allB rfl) rfl mal boot_all' (pa_cons (pe_lc (N := laN) (sc := defScope sLaw) (N' := ["_law_row", "_law_cuts"]) (sub := [none, some 11]) rfl rfl (CmpOk.of (by decide +kernel)) rfl (pi_list (pe_call G8 hr5 rfl mG8 kG8 bG8 .nil pass0 (pa_cons (pv 4) pa_nil))) (fun C s H fp => ⟨pg_name (i := 0) (by show (["_law_row", "_law_cuts"] : List Str).Nodup; decide) rfl (Or.inl rfl), pts_nil, (pe_cmpR (show OpR _ (compareOp .In) (rInD K) from op_inD (room65 hr5)) (pv 0) (pv 1) (by with_unfolding_all rfl))⟩)) pa_nil))))))))), ?_⟩
  refine ⟨_, rfl, a, ns, rfl, hS, fun nr net H1 e1 nr0 nt ln tx rs pb => ?_⟩
  refine ⟨_, rfl, nr, net, rfl, nt, ln, fun kr kn H2 e2 kr0 hkn pk rk kl => ?_⟩
  obtain ⟨as, hnr, prn⟩ := id (nt.ext e2)
  refine ⟨_, rfl, nr, _, rfl, .inl (SqL.of hnr), fun hl hhl => ?_⟩
  have X1 := Ext.new hhl (.lst (as.map V.ref))
  refine ⟨_, rfl, nr, _, rfl, .inl (SqL.of (X1 _ _ hnr)), fun l2 hl2 => ?_⟩
  have X2 := X1.trans (Ext.new hl2 (.lst (as.map V.ref)))
  refine ⟨l2, net, rfl, ⟨as, upd_same, Paired.mapP prn fun a t z => X2 _ _ z⟩, ln, fun T ps S M H4 e4 t0 tf pk2 rk2 pS pM dM => ?_⟩
  have E4 := (e1.trans e2).trans (X2.trans e4)
  have hS4 := Ext.sqL E4 hS
  have nt4 := nt.ext (e2.trans (X2.trans e4))
  have hkn4 : LsS H4 kr kn := (X2.trans e4) _ _ hkn
  have nh4 : NetAt H4 hl net := ⟨as, e4 _ _ ((Ext.new hl2 _) _ _ upd_same), Paired.mapP prn fun a t z => (X2.trans e4) _ _ z⟩
  have ti4 := tf.tin
  have hP4 : TabW H4 Pt lpI qI := .inl (E4 _ _ hP)
  clear X1 X2 hnr prn nt e1 e2 e4 tf t0 hkn E4 hS hhl hl2
  have k10 := pts_ten pb pk
  have okn := pts_ok tx pk
  have lnn : (nmS net).length = net.length := List.length_map ..
  have lM : M.length ≤ 24 := by
    have h1 := pM.length_eq
    have h2 := red_le (crAll S net.length)
    have h3 : (crAll S net.length).length ≤ net.length := by
      unfold crAll
      rw [List.length_map]
      exact Nat.le_trans (List.length_filter_le _ _) (by rw [List.length_range]; exact Nat.le_refl _)
    omega
  obtain ⟨ta, tb, hT, hta, ⟨ms, htb, prm⟩⟩ := id ti4
  refine ⟨4, rfl, by decide, by decide, for_range (lo := 0) (n := 4) (fun i σ H' => ∃ x5 x6 x7 x8 x9 x10 : Option V, σ = [some (.ref a), some (.ref nr), some (.ref kr), some (.ref hl), some (.ref T), x5, x6, x7, x8, x9, x10, none] ∧ Ext H4 H') ⟨none, none, none, none, none, none, rfl, Ext.refl _⟩ ?_ ?_⟩
  · rintro i σ H' hi ⟨x5, x6, x7, x8, x9, x10, rfl, e⟩
    refine ⟨_, rfl, _, rfl, _, _, rfl, rfl, a, ns, _, rfl, Ext.sqL e hS4, by omega, by omega, fun v => ?_⟩
    obtain ⟨x, hx, hx2⟩ : ∃ x : Nat, v % 1024 = (x : Int) ∧ x < 1024 := ⟨(v % 1024).toNat, by omega, by omega⟩
    refine ⟨_, rfl, _, rfl, _, _, rfl, rfl, (by show (0 : Int) < _; decide), kr, kn, x, (by show [V.ref kr, V.int (v % 1024)] = _; rw [hx]), e _ _ hkn4, by omega, fun sr H5 e5 sr0 hsr => ?_⟩
    have E5 := e.trans e5
    have ls := rowL_le kn x
    refine ⟨fun σ H' => ∃ (sr : Addr) (ss : List Str), σ = [some (.ref a), some (.ref nr), some (.ref kr), some (.ref hl), some (.ref T), some (.int (0 + i)), some (.int v), some (.ref sr), x8, x9, x10, none] ∧ Ext H4 H' ∧ LsS H' sr ss ∧ SOk ss ∧ ss.length ≤ 12, ?_, ?_⟩
    · refine ⟨_, rfl, _, _, rfl, rfl, ⟨by decide, by decide⟩, _, _, rfl, rfl, (by show (0 : Int) < _; decide), rfl, _, rfl, ite2 (fun c => ?_) (fun c => ?_)⟩
      · refine ⟨_, rfl, _, rfl, _, _, rfl, rfl, ⟨by decide, by decide⟩, _, _, rfl, rfl, (by show (0 : Int) < _; decide), _, _, rfl, rfl, _, _, rfl, rfl, by decide, by omega, by omega, (by show 1 ≤ sizeLine; decide), fun l1 hl1 => ?_⟩
        have X := Ext.new hl1 (.lst [V.str (Txt.mul "z" (1 + v / 4096 % 6))])
        refine ⟨sr, l1, _, _, rfl, rfl, X _ _ hsr, upd_same, by rw [List.length_map]; exact Nat.le_of_lt (small1000 (by show _ + 1 ≤ _; omega)), fun l3 hl3 => ?_⟩
        have X3 := X.trans (Ext.new hl3 (.lst ((rowL kn x).map V.str ++ [V.str (Txt.mul "z" (1 + v / 4096 % 6))])))
        refine ⟨l3, rowL kn x ++ [Txt.mul "z" (1 + v / 4096 % 6)], rfl, SqL.of (by rw [upd_same, List.map_append]; rfl), by rw [List.length_append]; show _ + 1 < 64; omega, fun r ss hr' pm _ => ?_⟩
        refine ⟨r, ss, rfl, E5.trans (X3.trans (Ext.new hr' _)), upd_same, fun y hy => ?_, by rw [pm.length_eq, List.length_append]; show _ + 1 ≤ 12; omega⟩
        rcases List.mem_append.mp (pm.mem_iff.mp hy) with h | h
        · exact okn y (rowL_sub h)
        · rw [List.mem_singleton.mp h]
          exact zz_ok _ (by omega) (by omega)
      · exact ⟨sr, rowL kn x, rfl, E5, hsr, fun y hy => okn y (rowL_sub hy), by omega⟩
    rintro σ H6 ⟨sr, ss, rfl, e6, hsr, oks, lss⟩
    refine ⟨fun σ H' => ∃ (sr : Addr) (ss : List Str), σ = [some (.ref a), some (.ref nr), some (.ref kr), some (.ref hl), some (.ref T), some (.int (0 + i)), some (.int v), some (.ref sr), x8, x9, x10, none] ∧ Ext H4 H' ∧ LsS H' sr ss ∧ SOk ss ∧ ss.length ≤ 12, ?_, ?_⟩
    · refine ⟨_, rfl, sr, ss, rfl, SqL.of hsr, by omega, fun s1 zs hs1 _ lz mz => ?_⟩
      refine ⟨s1, zs, rfl, upd_same, by omega, fun r ss2 hr' pm _ => ?_⟩
      exact ⟨r, ss2, rfl, e6.trans ((Ext.new hs1 _).trans (Ext.new hr' _)), upd_same, fun y hy => oks y ((mz y).mp (pm.mem_iff.mp hy)), by rw [pm.length_eq]; omega⟩
    clear hsr oks lss sr ss e6 H6
    rintro σ H6 ⟨sr, ss, rfl, e6, hsr, oks, lss⟩
    refine ⟨_, rfl, sr, _, rfl, .inl (SqL.of hsr), fun ar har => ?_⟩
    have X7 := Ext.new har (.lst (ss.map V.str))
    have E7 := e6.trans X7
    have hs7 : LsS (upd H6 ar (.lst (ss.map V.str))) sr ss := X7 _ _ hsr
    have ha7 : LsS (upd H6 ar (.lst (ss.map V.str))) ar ss := upd_same
    revert E7 hs7 ha7
    generalize upd H6 ar (.lst (ss.map V.str)) = H7
    intro E7 hs7 ha7
    refine ⟨2, rfl, by decide, by decide, for_range (lo := 0) (n := 2) (fun j σ H' => ∃ x9 x10 : Option V, σ = [some (.ref a), some (.ref nr), some (.ref kr), some (.ref hl), some (.ref T), some (.int (0 + i)), some (.int v), some (.ref sr), some (.ref ar), x9, x10, none] ∧ Ext H7 H') ⟨x9, x10, rfl, Ext.refl _⟩ ?_ ?_⟩
    · rintro j σ H' hj ⟨x9, x10, rfl, e⟩
      have E8 := E7.trans e
      refine ⟨_, rfl, _, rfl, hl, ar, net, ss, rfl, nh4.ext E8, ln, e _ _ ha7, fun fr H9 e9 fr0 hfr => ?_⟩
      have E9 := E8.trans e9
      have e79 := e.trans e9
      have okc := cut_ok tx ss
      refine ⟨_, rfl, _, _, _, true, rfl, .lst hfr, kit_same _ _, true, rfl, iteF ?_⟩
      refine ⟨_, rfl, _, rfl, _, rfl, nr, sr, net, ss, rfl, nt4.ext E9, ln, e79 _ _ hs7, fun cr H10 e10 _ hcr => ?_⟩
      refine ⟨_, _, dr_row (e10 _ _ hfr), dr_row hcr, shaped_row okc, shaped_row okc, _, rfl, ?_⟩
      rw [if_pos rfl, eqv_row, decide_eq_true rfl]
      refine iteF ?_
      have E10 := E9.trans e10
      have e710 := e79.trans e10
      refine ⟨_, rfl, _, rfl, _, _, dr_row (e710 _ _ ha7), dr_row (e710 _ _ hs7), shaped_row oks, shaped_row oks, _, rfl, ?_⟩
      rw [if_pos rfl, eqv_row, decide_eq_true rfl]
      refine iteF ?_
      refine ⟨_, rfl, _, rfl, _, _, dr_net (nh4.ext E10), dr_net (nt4.ext E10), shaped_net tx, shaped_net tx, _, rfl, ?_⟩
      rw [if_pos rfl, eqv_net]
      refine iteF ?_
      have hf10 : LsS H10 fr (cutF net ss) := e10 _ _ hfr
      have lm : ms.length = (M.map (rowM (nmS net))).length := prm.length
      refine ⟨_, rfl, T, _, _, _, rfl, rfl, SqT.of (E10 _ _ hT), (by exact atI_nat (j := 1) rfl), tb, rfl, ⟨_, SqL.of (E10 _ _ htb)⟩, ?_⟩
      refine turns_list (xs := ms.map V.ref) (fun k ys H2 => Ext H10 H2 ∧ ys = (List.replicate k true).map V.bl) ⟨Ext.refl _, rfl⟩ (fun k ys H2 _ h => SqL.of (h.1 _ _ (E10 _ _ htb))) ?_ ?_
      · rintro k u ys H11 hu ⟨e11, rfl⟩
        obtain ⟨c, rfl, hc⟩ := ref_get hu
        obtain ⟨row, hrow, hcr'⟩ := paired_get prm hc
        have hk := at_lt hc
        have hc11 : LsS H11 c row := (E10.trans e11) _ _ hcr'
        have hf11 : LsS H11 fr (cutF net ss) := e11 _ _ hf10
        have ev := tab_even rs pk2 pS pM (List.mem_of_getElem? hrow) ss
        refine ⟨Sle.set _ (Sle.refl _) (fun u z => by cases z), iteT (B := False) ⟨_, rfl, c, rfl, ⟨_, SqL.of hc11⟩, ?_⟩⟩
        refine turns_list (xs := row.map V.str) (fun k2 ys H2 => H2 = H11 ∧ ys = ((row.take k2).filter fun n => decide (n ∈ cutF net ss)).map V.str) ⟨rfl, rfl⟩ (fun k2 ys H2 _ h => by rw [h.1]; exact SqL.of hc11) ?_ ?_
        · rintro k2 u2 ys H12 hu2 ⟨rfl, rfl⟩
          obtain ⟨n, rfl, hn⟩ := str_get hu2
          have hk2 := at_lt hn
          have sz : ((row.take k2).filter fun n => decide (n ∈ cutF net ss)).length ≤ 5000 := by
            have h1 := List.length_filter_le (fun n => decide (n ∈ cutF net ss)) (row.take k2)
            have h2 : row.length ≤ 12 := by
              obtain ⟨z, _, rfl⟩ := List.mem_map.mp (List.mem_of_getElem? hrow)
              have h3 := rowM_le (nmS net) z
              rw [lnn] at h3
              exact Nat.le_trans h3 ln
            rw [List.length_take] at h1
            omega
          refine ⟨Sle.set _ (Sle.refl _) (fun u z => by cases z), ?_⟩
          refine ⟨_, rfl, _, rfl, fr, _, rfl, .inl (SqL.of hf11), rfl, flat_strs _, _, rfl, ?_⟩
          rw [if_neg (by decide), inV_str]
          refine ite2 (fun c => ?_) (fun c => ?_)
          · refine ⟨_, rfl, by rw [List.length_map]; exact small5000 sz, nxt (at_lt hu2) ⟨rfl, ?_⟩⟩
            rw [filt_t hn c, List.map_append]; rfl
          · exact nxt (at_lt hu2) ⟨rfl, by rw [filt_f hn (by simpa using c)]⟩
        · rintro ys H12 ⟨rfl, rfl⟩ l hl'
          rw [List.length_map, List.take_of_length_le (Nat.le_refl _)]
          have Xl := Ext.new hl' (.lst ((row.filter fun n => decide (n ∈ cutF net ss)).map V.str))
          refine ⟨l, _, rfl, .inl (SqL.of upd_same), _, _, rfl, rfl, (by show (0 : Int) < _; decide), rfl, ?_⟩
          refine ⟨by rw [List.length_map, List.length_replicate]; exact small1000 (by rw [List.length_map] at lm; omega), nxt (at_lt hu) ⟨e11.trans Xl, ?_⟩⟩
          · have z : decide (V.int (((row.filter fun n => decide (n ∈ cutF net ss)).map V.str).length % 2) = V.int 0) = true := by
              rw [List.length_map]
              refine decide_eq_true (congrArg V.int ?_)
              omega
            rw [List.replicate_succ', List.map_append]
            show _ ++ [V.bl (decide (V.int _ = V.int 0))] = _
            rw [z]; rfl
      · rintro ys H11 ⟨e11, rfl⟩ l hl'
        have Xl := Ext.new hl' (.lst ((List.replicate (ms.map V.ref).length true).map V.bl))
        refine ⟨l, List.replicate (ms.map V.ref).length true, rfl, SqL.of upd_same, _, rfl, ?_⟩
        rw [show (List.replicate (ms.map V.ref).length true).all id = true by rw [List.all_eq_true]; intro x hx; exact (List.mem_replicate.mp hx).2]
        refine iteF ?_
        have lc := cutF_len net ss
        refine ⟨_, rfl, .inl ⟨rfl, _, SqL.of ((e11.trans Xl) _ _ hf10)⟩, fr, _, _, rfl, rfl, (e11.trans Xl) _ _ hf10, (by rw [List.length_map]; exact small1000 (by omega)), ?_⟩
        exact ⟨_, _, rfl, (((e79.trans e10).trans e11).trans Xl).over (e.none fr0) _⟩
    · rintro σ H' ⟨x9, x10, rfl, e⟩
      exact ⟨_, _, _, _, _, _, rfl, E7.trans e⟩
  rintro σ H5 ⟨x5, x6, x7, x8, x9, x10, rfl, e5⟩
  have kn5 : LsS H5 kr kn := e5 _ _ hkn4
  have pw : (1 : Int) * 2 ^ (((kn.map V.str).length : Nat) : Int).toNat = ((2 ^ kn.length : Nat) : Int) := by rw [List.length_map]; exact shl_nat _
  have pb4 : ((2 ^ kn.length : Nat) : Int) < 2 ^ 62 := Int.lt_of_le_of_lt (Int.ofNat_le.mpr (Nat.pow_le_pow_right (n := 2) (by decide) k10)) (by decide)
  refine ⟨_, rfl, kr, _, rfl, .inl (SqL.of kn5), _, _, rfl, rfl, ⟨by omega, by rw [List.length_map]; omega, by decide⟩, _, rfl, (by rw [pw]; exact Int.le_trans (by decide) (Int.natCast_nonneg _)), (by rw [pw]; exact pb4), ?_⟩
  rw [pw, Int.toNat_natCast]
  have p10 : 2 ^ kn.length ≤ 1024 := Nat.pow_le_pow_right (n := 2) (by decide) k10
  refine turns_range (lo := 0) (n := 2 ^ kn.length) (fun i ys H' => Ext H5 H' ∧ ∃ cs, ys = cs.map V.ref ∧ Paired (LsS H') cs ((List.range i).map fun n => cutF net (rowL kn n))) ⟨Ext.refl _, [], rfl, .nil⟩ ?_ ?_
  · rintro i ys H' hi ⟨e, cs, rfl, pr⟩
    have lc : cs.length = _ := pr.length
    rw [List.length_map, List.length_range] at lc
    refine ⟨Sle.set _ (Sle.refl _) (fun u z => by cases z), iteT (B := False) ⟨_, rfl, _, rfl, _, rfl, kr, kn, i, (by show [V.ref kr, V.int (0 + (i : Int))] = _; rw [show (0 + (i : Int)) = ((i : Nat) : Int) by omega]), e _ _ kn5, by omega, fun sr H6 e6 _ hsr => ?_⟩⟩
    refine ⟨nr, sr, net, _, rfl, nt4.ext (e5.trans (e.trans e6)), ln, hsr, fun cr H7 e7 _ hcr => ⟨?_, nxt hi ⟨e.trans (e6.trans e7), cs ++ [cr], by rw [List.map_append]; rfl, ?_⟩⟩⟩
    · rw [List.length_map]; exact small5000 (by omega)
    · rw [List.range_succ, List.map_append]
      exact Paired.snoc (Paired.mapP pr fun a t z => (e6.trans e7) _ _ z) hcr
  rintro ys H6 ⟨e6, cs, rfl, pr⟩ cr hcr
  have Xc := Ext.new hcr (.lst (cs.map V.ref))
  have E7 := (e5.trans e6).trans Xc
  have rc : RowsAt (upd H6 cr (.lst (cs.map V.ref))) cr ((List.range (2 ^ kn.length)).map fun n => cutF net (rowL kn n)) := ⟨cs, upd_same, Paired.mapP pr fun a t z => Xc _ _ z⟩
  revert E7 rc
  generalize upd H6 cr (.lst (cs.map V.ref)) = H7
  intro E7 rc
  refine ⟨_, rfl, T, nmS net, M.map (rowM (nmS net)), rfl, ti4.ext E7, by omega, by rw [List.length_map]; exact lM, My.TabW.extE hP4 E7, fun wr S2 C M2 L FW H8 eB _ hwr pS2 pC pM2 pL _ pF _ tw8 => ?_⟩
  obtain ⟨ptb, hPt⟩ := My.TabW.tb (My.TabW.extE hP4 E7)
  obtain ⟨ws, hws, prw⟩ := hwr
  have rc8 : RowsAt H8 cr ((List.range (2 ^ kn.length)).map fun n => cutF net (rowL kn n)) := by
    obtain ⟨cs', h1, h2⟩ := rc
    refine ⟨cs', eB _ _ (fun z => by rw [z, hPt] at h1; cases h1) h1, Paired.mapP h2 fun a t z => eB _ _ (fun y => by unfold LsS at z; rw [y, hPt] at z; cases z) z⟩
  have lF : FW.length ≤ 4096 := by
    rw [pF.length_eq, List.length_map]
    refine Nat.le_trans (rmF_len L) ?_
    rw [pL.length_eq, sumF_len]
    have h1 : M2.length ≤ (nmS net).length := (step_rr pM2).2.2
    exact Nat.le_trans (Nat.pow_le_pow_right (by decide) (show M2.length ≤ 12 by omega)) (by decide)
  have okF : ∀ r ∈ (List.range (2 ^ kn.length)).map fun n => cutF net (rowL kn n), SOk r := fun r hr' => by
    obtain ⟨n, _, rfl⟩ := List.mem_map.mp hr'
    exact cut_ok tx _
  have inF : ∀ r ∈ FW, r ∈ (List.range (2 ^ kn.length)).map fun n => cutF net (rowL kn n) := fun r hr' => by
    obtain ⟨z, hz, rfl⟩ := List.mem_map.mp (pF.mem_iff.mp hr')
    obtain ⟨n, h1, h2⟩ := wall_cut rs pk2 pS pM pS2 pC pM2 pL hz
    have ek : ps = kn := rise_ext rk2 rk fun x => (pk2.2 x).trans (pk.2 x).symm
    rw [ek] at h1 h2
    exact List.mem_map.mpr ⟨n, List.mem_range.mpr h1, h2⟩
  have lw : ws.length = FW.length := prw.length
  refine ⟨wr, rfl, ⟨_, SqL.of hws⟩, ?_⟩
  refine turns_list (xs := ws.map V.ref) (fun k ys H2 => H2 = H8 ∧ ys = (List.replicate k true).map V.bl) ⟨rfl, rfl⟩ (fun k ys H2 _ h => by rw [h.1]; exact SqL.of hws) ?_ ?_
  · rintro k u ys H9 hu ⟨rfl, rfl⟩
    obtain ⟨c, rfl, hc⟩ := ref_get hu
    obtain ⟨row, hrow, hcr'⟩ := paired_get prw hc
    have hk := at_lt hc
    have hin := inF row (List.mem_of_getElem? hrow)
    refine ⟨Sle.set _ (Sle.refl _) (fun u z => by cases z), iteT (B := False) ⟨_, rfl, _, rfl, _, _, dr_rows rc8, dr_row hcr', shaped_rows okF, shaped_row (okF row hin), ?_⟩⟩
    rw [any_rows, decide_eq_true hin]
    refine ⟨by rw [List.length_map, List.length_replicate]; exact small5000 (by omega), nxt (at_lt hu) ⟨rfl, ?_⟩⟩
    rw [List.replicate_succ', List.map_append]; rfl
  · rintro ys H9 ⟨rfl, rfl⟩ l hl'
    refine ⟨l, List.replicate (ws.map V.ref).length true, rfl, SqL.of upd_same, ?_⟩
    rw [show (List.replicate (ws.map V.ref).length true).all id = true by rw [List.all_eq_true]; intro x hx; exact (List.mem_replicate.mp hx).2]
    exact q _
end
end My
namespace My
open PySem L2
theorem len1 {α : Type} {us : List α} (h : us.length = 1) : ∃ a, us = [a] := List.length_eq_one_iff.mp h
theorem len2 {α : Type} {us : List α} (h : us.length = 2) : ∃ a b, us = [a, b] := by
  match us, h with | [a, b], _ => exact ⟨a, b, rfl⟩
theorem len3 {α : Type} {us : List α} (h : us.length = 3) : ∃ a b c, us = [a, b, c] := by
  match us, h with | [a, b, c], _ => exact ⟨a, b, c, rfl⟩
set_option maxHeartbeats 16000000 in
theorem all_mk {l : PySem.W.OpenLaw} {w : World} {K : PySem.W.Frag} {h : Heap} {mg : Str → Option Value} {fa f1 f2 f3 f4 f5 f6 f7 f8 f9 f10 f11 f12 f13 f14 f15 f16 f17 f18 f19 f20 f21 f22 f23 f24 f25 f26 f27 f28 : Addr} (X : K.In h) (G : h.Ns mainGlobals mg) (hfa : mg "law" = some (.ref fa)) {c T : Addr} (ht : PySem.W.tabIn K "in_order" = some (c, T))
    {od1 an1 od2 an2 od3 an3 od4 an4 od5 an5 od6 an6 od7 an7 od8 an8 od9 an9 od10 an10 od11 an11 od12 an12 od13 an13 od14 an14 od15 an15 od16 an16 od17 an17 od18 an18 od19 an19 od20 an20 od21 an21 od22 an22 od23 an23 od24 an24 od25 an25 od26 an26 od27 an27 od28 an28 : Option Addr} {sl1 sl2 sl3 sl4 sl5 sl6 sl7 sl8 sl9 sl10 sl11 sl12 sl13 sl14 sl15 sl16 sl17 sl18 sl19 sl20 sl21 sl22 sl23 sl24 sl25 sl26 sl27 sl28 : Array (Option Value)} {oc1 kV1 dc1 pm1 cd1 ct1 oc2 kV2 dc2 pm2 cd2 ct2 oc3 kV3 dc3 pm3 cd3 ct3 oc4 kV4 dc4 pm4 cd4 ct4 oc5 kV5 dc5 pm5 cd5 ct5 oc6 kV6 dc6 pm6 cd6 ct6 oc7 kV7 dc7 pm7 cd7 ct7 oc8 kV8 dc8 pm8 cd8 ct8 oc9 kV9 dc9 pm9 cd9 ct9 oc10 kV10 dc10 pm10 cd10 ct10 oc11 kV11 dc11 pm11 cd11 ct11 oc12 kV12 dc12 pm12 cd12 ct12 oc13 kV13 dc13 pm13 cd13 ct13 oc14 kV14 dc14 pm14 cd14 ct14 oc15 kV15 dc15 pm15 cd15 ct15 oc16 kV16 dc16 pm16 cd16 ct16 oc17 kV17 dc17 pm17 cd17 ct17 oc18 kV18 dc18 pm18 cd18 ct18 oc19 kV19 dc19 pm19 cd19 ct19 oc20 kV20 dc20 pm20 cd20 ct20 oc21 kV21 dc21 pm21 cd21 ct21 oc22 kV22 dc22 pm22 cd22 ct22 oc23 kV23 dc23 pm23 cd23 ct23 oc24 kV24 dc24 pm24 cd24 ct24 oc25 kV25 dc25 pm25 cd25 ct25 oc26 kV26 dc26 pm26 cd26 ct26 oc27 kV27 dc27 pm27 cd27 ct27 oc28 kV28 dc28 pm28 cd28 ct28 : Value}
    (a1 : PySem.W.nsIn K mainGlobals "mask_of" = some (some (.ref f1))) (l1 : K.lookup f1 = some ⟨oc1, od1, .func (PySem.W.fnOf "mask_of" "mask_of" (defArgs sMask) (defBody sMask) (defScope sMask) .none kV1 dc1 pm1 an1 cd1 ct1), sl1⟩) (c1 : PySem.W.codeIn K cd1 "mask_of" = true) (k1 : PySem.W.keepIn K (.ref f1) = true)
    (a2 : PySem.W.nsIn K mainGlobals "row_of" = some (some (.ref f2))) (l2 : K.lookup f2 = some ⟨oc2, od2, .func (PySem.W.fnOf "row_of" "row_of" (defArgs sRowOf) (defBody sRowOf) (defScope sRowOf) .none kV2 dc2 pm2 an2 cd2 ct2), sl2⟩) (c2 : PySem.W.codeIn K cd2 "row_of" = true) (k2 : PySem.W.keepIn K (.ref f2) = true)
    (a3 : PySem.W.nsIn K mainGlobals "lessened" = some (some (.ref f3))) (l3 : K.lookup f3 = some ⟨oc3, od3, .func (PySem.W.fnOf "lessened" "lessened" (defArgs sLess) (defBody sLess) (defScope sLess) .none kV3 dc3 pm3 an3 cd3 ct3), sl3⟩) (c3 : PySem.W.codeIn K cd3 "lessened" = true) (k3 : PySem.W.keepIn K (.ref f3) = true)
    (a4 : PySem.W.nsIn K mainGlobals "reduced" = some (some (.ref f4))) (l4 : K.lookup f4 = some ⟨oc4, od4, .func (PySem.W.fnOf "reduced" "reduced" (defArgs sRedu) (defBody sRedu) (defScope sRedu) .none kV4 dc4 pm4 an4 cd4 ct4), sl4⟩) (c4 : PySem.W.codeIn K cd4 "reduced" = true) (k4 : PySem.W.keepIn K (.ref f4) = true)
    (a5 : PySem.W.nsIn K mainGlobals "sums" = some (some (.ref f5))) (l5 : K.lookup f5 = some ⟨oc5, od5, .func (PySem.W.fnOf "sums" "sums" (defArgs sSums) (defBody sSums) (defScope sSums) .none kV5 dc5 pm5 an5 cd5 ct5), sl5⟩) (c5 : PySem.W.codeIn K cd5 "sums" = true) (k5 : PySem.W.keepIn K (.ref f5) = true)
    (a6 : PySem.W.nsIn K mainGlobals "lead_of" = some (some (.ref f6))) (l6 : K.lookup f6 = some ⟨oc6, od6, .func (PySem.W.fnOf "lead_of" "lead_of" (defArgs sLead) (defBody sLead) (defScope sLead) .none kV6 dc6 pm6 an6 cd6 ct6), sl6⟩) (c6 : PySem.W.codeIn K cd6 "lead_of" = true) (k6 : PySem.W.keepIn K (.ref f6) = true)
    (a7 : PySem.W.nsIn K mainGlobals "crossed_masks" = some (some (.ref f7))) (l7 : K.lookup f7 = some ⟨oc7, od7, .func (PySem.W.fnOf "crossed_masks" "crossed_masks" (defArgs sCrM) (defBody sCrM) (defScope sCrM) .none kV7 dc7 pm7 an7 cd7 ct7), sl7⟩) (c7 : PySem.W.codeIn K cd7 "crossed_masks" = true) (k7 : PySem.W.keepIn K (.ref f7) = true)
    (a8 : PySem.W.nsIn K mainGlobals "table_from" = some (some (.ref f8))) (l8 : K.lookup f8 = some ⟨oc8, od8, .func (PySem.W.fnOf "table_from" "table_from" (defArgs sTabF) (defBody sTabF) (defScope sTabF) .none kV8 dc8 pm8 an8 cd8 ct8), sl8⟩) (c8 : PySem.W.codeIn K cd8 "table_from" = true) (k8 : PySem.W.keepIn K (.ref f8) = true)
    (a9 : PySem.W.nsIn K mainGlobals "step_masks" = some (some (.ref f9))) (l9 : K.lookup f9 = some ⟨oc9, od9, .func (PySem.W.fnOf "step_masks" "step_masks" (defArgs sStepM) (defBody sStepM) (defScope sStepM) .none kV9 dc9 pm9 an9 cd9 ct9), sl9⟩) (c9 : PySem.W.codeIn K cd9 "step_masks" = true) (k9 : PySem.W.keepIn K (.ref f9) = true)
    (a10 : PySem.W.nsIn K mainGlobals "crossed" = some (some (.ref f10))) (l10 : K.lookup f10 = some ⟨oc10, od10, .func (PySem.W.fnOf "crossed" "crossed" (defArgs sCross) (defBody sCross) (defScope sCross) .none kV10 dc10 pm10 an10 cd10 ct10), sl10⟩) (c10 : PySem.W.codeIn K cd10 "crossed" = true) (k10 : PySem.W.keepIn K (.ref f10) = true)
    (a11 : PySem.W.nsIn K mainGlobals "ties_of" = some (some (.ref f11))) (l11 : K.lookup f11 = some ⟨oc11, od11, .func (PySem.W.fnOf "ties_of" "ties_of" (defArgs sTies) (defBody sTies) (defScope sTies) .none kV11 dc11 pm11 an11 cd11 ct11), sl11⟩) (c11 : PySem.W.codeIn K cd11 "ties_of" = true) (k11 : PySem.W.keepIn K (.ref f11) = true)
    (a12 : PySem.W.nsIn K mainGlobals "points" = some (some (.ref f12))) (l12 : K.lookup f12 = some ⟨oc12, od12, .func (PySem.W.fnOf "points" "points" (defArgs sPoints) (defBody sPoints) (defScope sPoints) .none kV12 dc12 pm12 an12 cd12 ct12), sl12⟩) (c12 : PySem.W.codeIn K cd12 "points" = true) (k12 : PySem.W.keepIn K (.ref f12) = true)
    (a13 : PySem.W.nsIn K mainGlobals "met_once" = some (some (.ref f13))) (l13 : K.lookup f13 = some ⟨oc13, od13, .func (PySem.W.fnOf "met_once" "met_once" (defArgs sMet) (defBody sMet) (defScope sMet) .none kV13 dc13 pm13 an13 cd13 ct13), sl13⟩) (c13 : PySem.W.codeIn K cd13 "met_once" = true) (k13 : PySem.W.keepIn K (.ref f13) = true)
    (a14 : PySem.W.nsIn K mainGlobals "table_of" = some (some (.ref f14))) (l14 : K.lookup f14 = some ⟨oc14, od14, .func (PySem.W.fnOf "table_of" "table_of" (defArgs sTable) (defBody sTable) (defScope sTable) .none kV14 dc14 pm14 an14 cd14 ct14), sl14⟩) (c14 : PySem.W.codeIn K cd14 "table_of" = true) (k14 : PySem.W.keepIn K (.ref f14) = true)
    (a15 : PySem.W.nsIn K mainGlobals "cut" = some (some (.ref f15))) (l15 : K.lookup f15 = some ⟨oc15, od15, .func (PySem.W.fnOf "cut" "cut" (defArgs sCut) (defBody sCut) (defScope sCut) .none kV15 dc15 pm15 an15 cd15 ct15), sl15⟩) (c15 : PySem.W.codeIn K cd15 "cut" = true) (k15 : PySem.W.keepIn K (.ref f15) = true)
    (a16 : PySem.W.nsIn K mainGlobals "in_order" = some (some (.ref f16))) (l16 : K.lookup f16 = some ⟨oc16, od16, .func (PySem.W.fnOf "in_order" "in_order" (defArgs sInOrd) (defBody sInOrd) (defScope sInOrd) .none kV16 dc16 pm16 an16 cd16 ct16), sl16⟩) (c16 : PySem.W.codeIn K cd16 "in_order" = true) (k16 : PySem.W.keepIn K (.ref f16) = true)
    (a17 : PySem.W.nsIn K mainGlobals "round_masks" = some (some (.ref f17))) (l17 : K.lookup f17 = some ⟨oc17, od17, .func (PySem.W.fnOf "round_masks" "round_masks" (defArgs sRMas) (defBody sRMas) (defScope sRMas) .none kV17 dc17 pm17 an17 cd17 ct17), sl17⟩) (c17 : PySem.W.codeIn K cd17 "round_masks" = true) (k17 : PySem.W.keepIn K (.ref f17) = true)
    (a18 : PySem.W.nsIn K mainGlobals "rounds" = some (some (.ref f18))) (l18 : K.lookup f18 = some ⟨oc18, od18, .func (PySem.W.fnOf "rounds" "rounds" (defArgs sRounds) (defBody sRounds) (defScope sRounds) .none kV18 dc18 pm18 an18 cd18 ct18), sl18⟩) (c18 : PySem.W.codeIn K cd18 "rounds" = true) (k18 : PySem.W.keepIn K (.ref f18) = true)
    (a19 : PySem.W.nsIn K mainGlobals "walls" = some (some (.ref f19))) (l19 : K.lookup f19 = some ⟨oc19, od19, .func (PySem.W.fnOf "walls" "walls" (defArgs sWalls) (defBody sWalls) (defScope sWalls) .none kV19 dc19 pm19 an19 cd19 ct19), sl19⟩) (c19 : PySem.W.codeIn K cd19 "walls" = true) (k19 : PySem.W.keepIn K (.ref f19) = true)
    (a20 : PySem.W.nsIn K mainGlobals "_law_cell_at" = some (some (.ref f20))) (l20 : K.lookup f20 = some ⟨oc20, od20, .func (PySem.W.fnOf "_law_cell_at" "_law_cell_at" (defArgs sCell) (defBody sCell) (defScope sCell) .none kV20 dc20 pm20 an20 cd20 ct20), sl20⟩) (c20 : PySem.W.codeIn K cd20 "_law_cell_at" = true) (k20 : PySem.W.keepIn K (.ref f20) = true)
    (a21 : PySem.W.nsIn K mainGlobals "_law_big" = some (some (.ref f21))) (l21 : K.lookup f21 = some ⟨oc21, od21, .func (PySem.W.fnOf "_law_big" "_law_big" (defArgs sBig) (defBody sBig) (defScope sBig) .none kV21 dc21 pm21 an21 cd21 ct21), sl21⟩) (c21 : PySem.W.codeIn K cd21 "_law_big" = true) (k21 : PySem.W.keepIn K (.ref f21) = true)
    (a22 : PySem.W.nsIn K mainGlobals "_law_names" = some (some (.ref f22))) (l22 : K.lookup f22 = some ⟨oc22, od22, .func (PySem.W.fnOf "_law_names" "_law_names" (defArgs sNames) (defBody sNames) (defScope sNames) .none kV22 dc22 pm22 an22 cd22 ct22), sl22⟩) (c22 : PySem.W.codeIn K cd22 "_law_names" = true) (k22 : PySem.W.keepIn K (.ref f22) = true)
    (a23 : PySem.W.nsIn K mainGlobals "_law_ends" = some (some (.ref f23))) (l23 : K.lookup f23 = some ⟨oc23, od23, .func (PySem.W.fnOf "_law_ends" "_law_ends" (defArgs sEnds) (defBody sEnds) (defScope sEnds) .none kV23 dc23 pm23 an23 cd23 ct23), sl23⟩) (c23 : PySem.W.codeIn K cd23 "_law_ends" = true) (k23 : PySem.W.keepIn K (.ref f23) = true)
    (a24 : PySem.W.nsIn K mainGlobals "_law_net" = some (some (.ref f24))) (l24 : K.lookup f24 = some ⟨oc24, od24, .func (PySem.W.fnOf "_law_net" "_law_net" (defArgs sNet) (defBody sNet) (defScope sNet) .none kV24 dc24 pm24 an24 cd24 ct24), sl24⟩) (c24 : PySem.W.codeIn K cd24 "_law_net" = true) (k24 : PySem.W.keepIn K (.ref f24) = true)
    (a25 : PySem.W.nsIn K mainGlobals "_law_points" = some (some (.ref f25))) (l25 : K.lookup f25 = some ⟨oc25, od25, .func (PySem.W.fnOf "_law_points" "_law_points" (defArgs sLPoints) (defBody sLPoints) (defScope sLPoints) .none kV25 dc25 pm25 an25 cd25 ct25), sl25⟩) (c25 : PySem.W.codeIn K cd25 "_law_points" = true) (k25 : PySem.W.keepIn K (.ref f25) = true)
    (a26 : PySem.W.nsIn K mainGlobals "_law_cut" = some (some (.ref f26))) (l26 : K.lookup f26 = some ⟨oc26, od26, .func (PySem.W.fnOf "_law_cut" "_law_cut" (defArgs sLCut) (defBody sLCut) (defScope sLCut) .none kV26 dc26 pm26 an26 cd26 ct26), sl26⟩) (c26 : PySem.W.codeIn K cd26 "_law_cut" = true) (k26 : PySem.W.keepIn K (.ref f26) = true)
    (a27 : PySem.W.nsIn K mainGlobals "_law_row_of" = some (some (.ref f27))) (l27 : K.lookup f27 = some ⟨oc27, od27, .func (PySem.W.fnOf "_law_row_of" "_law_row_of" (defArgs sLRow) (defBody sLRow) (defScope sLRow) .none kV27 dc27 pm27 an27 cd27 ct27), sl27⟩) (c27 : PySem.W.codeIn K cd27 "_law_row_of" = true) (k27 : PySem.W.keepIn K (.ref f27) = true)
    (a28 : PySem.W.nsIn K mainGlobals "law" = some (some (.ref f28))) (l28 : K.lookup f28 = some ⟨oc28, od28, .func (PySem.W.fnOf "law" "law" (defArgs sLaw) (defBody sLaw) (defScope sLaw) .none kV28 dc28 pm28 an28 cd28 ct28), sl28⟩) (c28 : PySem.W.codeIn K cd28 "law" = true) (k28 : PySem.W.keepIn K (.ref f28) = true)
    (z1 : PySem.W.nsIn K mainGlobals "abs" = some none)
    (z2 : PySem.W.nsIn K mainGlobals "all" = some none)
    (z3 : PySem.W.nsIn K mainGlobals "any" = some none)
    (z4 : PySem.W.nsIn K mainGlobals "enumerate" = some none)
    (z5 : PySem.W.nsIn K mainGlobals "int" = some none)
    (z6 : PySem.W.nsIn K mainGlobals "isinstance" = some none)
    (z7 : PySem.W.nsIn K mainGlobals "len" = some none)
    (z8 : PySem.W.nsIn K mainGlobals "list" = some none)
    (z9 : PySem.W.nsIn K mainGlobals "min" = some none)
    (z10 : PySem.W.nsIn K mainGlobals "range" = some none)
    (z11 : PySem.W.nsIn K mainGlobals "set" = some none)
    (z12 : PySem.W.nsIn K mainGlobals "sorted" = some none)
    (z13 : PySem.W.nsIn K mainGlobals "sum" = some none)
    (z14 : PySem.W.nsIn K mainGlobals "tuple" = some none)
    (z15 : PySem.W.nsIn K mainGlobals "zip" = some none)
    : ∃ fd : FuncData, (∀ (s : Shared) (v : Value), BindsTo s fd ⟨[v], []⟩ [("_law_script", v)]) ∧ ∀ base : Heap, K.In base → base.Ns mainGlobals mg → PySem.W.CodeHd base c T → base.BuiltinsAt mg T → FnOk l.prog w K mg base CX0 6 fa fd ["_law_script"] (spLaw K T) := by
  have e := hfa.symm.trans (PySem.W.mg_of X G a28)
  cases e
  have F1 := fun_mk (st := sMask) l1 c1 k1
  have F2 := fun_mk (st := sRowOf) l2 c2 k2
  have F3 := fun_mk (st := sLess) l3 c3 k3
  have F4 := fun_mk (st := sRedu) l4 c4 k4
  have F5 := fun_mk (st := sSums) l5 c5 k5
  have F6 := fun_mk (st := sLead) l6 c6 k6
  have F7 := fun_mk (st := sCrM) l7 c7 k7
  have F8 := fun_mk (st := sTabF) l8 c8 k8
  have F9 := fun_mk (st := sStepM) l9 c9 k9
  have F10 := fun_mk (st := sCross) l10 c10 k10
  have F11 := fun_mk (st := sTies) l11 c11 k11
  have F12 := fun_mk (st := sPoints) l12 c12 k12
  have F13 := fun_mk (st := sMet) l13 c13 k13
  have F14 := fun_mk (st := sTable) l14 c14 k14
  have F15 := fun_mk (st := sCut) l15 c15 k15
  have F16 := fun_mk (st := sInOrd) l16 c16 k16
  have F17 := fun_mk (st := sRMas) l17 c17 k17
  have F18 := fun_mk (st := sRounds) l18 c18 k18
  have F19 := fun_mk (st := sWalls) l19 c19 k19
  have F20 := fun_mk (st := sCell) l20 c20 k20
  have F21 := fun_mk (st := sBig) l21 c21 k21
  have F22 := fun_mk (st := sNames) l22 c22 k22
  have F23 := fun_mk (st := sEnds) l23 c23 k23
  have F24 := fun_mk (st := sNet) l24 c24 k24
  have F25 := fun_mk (st := sLPoints) l25 c25 k25
  have F26 := fun_mk (st := sLCut) l26 c26 k26
  have F27 := fun_mk (st := sLRow) l27 c27 k27
  have F28 := fun_mk (st := sLaw) l28 c28 k28
  have b1 := F1.binds (ps := ["names", "row"]) fun _ _ _ _ _ _ us hl => by obtain ⟨_, _, rfl⟩ := len2 hl; rfl
  have m1 := PySem.W.mg_of X G a1
  have b2 := F2.binds (ps := ["names", "mask"]) fun _ _ _ _ _ _ us hl => by obtain ⟨_, _, rfl⟩ := len2 hl; rfl
  have m2 := PySem.W.mg_of X G a2
  have b3 := F3.binds (ps := ["mask", "kept"]) fun _ _ _ _ _ _ us hl => by obtain ⟨_, _, rfl⟩ := len2 hl; rfl
  have m3 := PySem.W.mg_of X G a3
  have b4 := F4.binds (ps := ["masks"]) fun _ _ _ _ _ _ us hl => by obtain ⟨_, rfl⟩ := len1 hl; rfl
  have m4 := PySem.W.mg_of X G a4
  have b5 := F5.binds (ps := ["masks"]) fun _ _ _ _ _ _ us hl => by obtain ⟨_, rfl⟩ := len1 hl; rfl
  have m5 := PySem.W.mg_of X G a5
  have b6 := F6.binds (ps := ["mask"]) fun _ _ _ _ _ _ us hl => by obtain ⟨_, rfl⟩ := len1 hl; rfl
  have m6 := PySem.W.mg_of X G a6
  have b7 := F7.binds (ps := ["steps", "width"]) fun _ _ _ _ _ _ us hl => by obtain ⟨_, _, rfl⟩ := len2 hl; rfl
  have m7 := PySem.W.mg_of X G a7
  have b8 := F8.binds (ps := ["names", "masks"]) fun _ _ _ _ _ _ us hl => by obtain ⟨_, _, rfl⟩ := len2 hl; rfl
  have m8 := PySem.W.mg_of X G a8
  have b9 := F9.binds (ps := ["table"]) fun _ _ _ _ _ _ us hl => by obtain ⟨_, rfl⟩ := len1 hl; rfl
  have m9 := PySem.W.mg_of X G a9
  have b10 := F10.binds (ps := ["table"]) fun _ _ _ _ _ _ us hl => by obtain ⟨_, rfl⟩ := len1 hl; rfl
  have m10 := PySem.W.mg_of X G a10
  have b11 := F11.binds (ps := ["net"]) fun _ _ _ _ _ _ us hl => by obtain ⟨_, rfl⟩ := len1 hl; rfl
  have m11 := PySem.W.mg_of X G a11
  have b12 := F12.binds (ps := ["net"]) fun _ _ _ _ _ _ us hl => by obtain ⟨_, rfl⟩ := len1 hl; rfl
  have m12 := PySem.W.mg_of X G a12
  have b13 := F13.binds (ps := ["net", "point"]) fun _ _ _ _ _ _ us hl => by obtain ⟨_, _, rfl⟩ := len2 hl; rfl
  have m13 := PySem.W.mg_of X G a13
  have b14 := F14.binds (ps := ["net"]) fun _ _ _ _ _ _ us hl => by obtain ⟨_, rfl⟩ := len1 hl; rfl
  have m14 := PySem.W.mg_of X G a14
  have b15 := F15.binds (ps := ["net", "some"]) fun _ _ _ _ _ _ us hl => by obtain ⟨_, _, rfl⟩ := len2 hl; rfl
  have m15 := PySem.W.mg_of X G a15
  have b16 := F16.binds (ps := ["rows"]) fun _ _ _ _ _ _ us hl => by obtain ⟨_, rfl⟩ := len1 hl; rfl
  have m16 := PySem.W.mg_of X G a16
  have b17 := F17.binds (ps := ["steps"]) fun _ _ _ _ _ _ us hl => by obtain ⟨_, rfl⟩ := len1 hl; rfl
  have m17 := PySem.W.mg_of X G a17
  have b18 := F18.binds (ps := ["table"]) fun _ _ _ _ _ _ us hl => by obtain ⟨_, rfl⟩ := len1 hl; rfl
  have m18 := PySem.W.mg_of X G a18
  have b19 := F19.binds (ps := ["table"]) fun _ _ _ _ _ _ us hl => by obtain ⟨_, rfl⟩ := len1 hl; rfl
  have m19 := PySem.W.mg_of X G a19
  have b20 := F20.binds (ps := ["_law_script", "_law_k"]) fun _ _ _ _ _ _ us hl => by obtain ⟨_, _, rfl⟩ := len2 hl; rfl
  have m20 := PySem.W.mg_of X G a20
  have b21 := F21.binds (ps := ["_law_script", "_law_k"]) fun _ _ _ _ _ _ us hl => by obtain ⟨_, _, rfl⟩ := len2 hl; rfl
  have m21 := PySem.W.mg_of X G a21
  have b22 := F22.binds (ps := ["_law_big_here", "_law_many"]) fun _ _ _ _ _ _ us hl => by obtain ⟨_, _, rfl⟩ := len2 hl; rfl
  have m22 := PySem.W.mg_of X G a22
  have b23 := F23.binds (ps := ["_law_big_here", "_law_many", "_law_spread"]) fun _ _ _ _ _ _ us hl => by obtain ⟨_, _, _, rfl⟩ := len3 hl; rfl
  have m23 := PySem.W.mg_of X G a23
  have b24 := F24.binds (ps := ["_law_script", "_law_at"]) fun _ _ _ _ _ _ us hl => by obtain ⟨_, _, rfl⟩ := len2 hl; rfl
  have m24 := PySem.W.mg_of X G a24
  have b25 := F25.binds (ps := ["_law_net_here"]) fun _ _ _ _ _ _ us hl => by obtain ⟨_, rfl⟩ := len1 hl; rfl
  have m25 := PySem.W.mg_of X G a25
  have b26 := F26.binds (ps := ["_law_net_here", "_law_some"]) fun _ _ _ _ _ _ us hl => by obtain ⟨_, _, rfl⟩ := len2 hl; rfl
  have m26 := PySem.W.mg_of X G a26
  have b27 := F27.binds (ps := ["_law_knots", "_law_number"]) fun _ _ _ _ _ _ us hl => by obtain ⟨_, _, rfl⟩ := len2 hl; rfl
  have m27 := PySem.W.mg_of X G a27
  have n_abs := PySem.W.mg_none_of X G z1
  have n_all := PySem.W.mg_none_of X G z2
  have n_any := PySem.W.mg_none_of X G z3
  have n_enumerate := PySem.W.mg_none_of X G z4
  have n_int := PySem.W.mg_none_of X G z5
  have n_isinstance := PySem.W.mg_none_of X G z6
  have n_len := PySem.W.mg_none_of X G z7
  have n_list := PySem.W.mg_none_of X G z8
  have n_min := PySem.W.mg_none_of X G z9
  have n_range := PySem.W.mg_none_of X G z10
  have n_set := PySem.W.mg_none_of X G z11
  have n_sorted := PySem.W.mg_none_of X G z12
  have n_sum := PySem.W.mg_none_of X G z13
  have n_tuple := PySem.W.mg_none_of X G z14
  have n_zip := PySem.W.mg_none_of X G z15
  refine ⟨PySem.W.fnOf "law" "law" (defArgs sLaw) (defBody sLaw) (defScope sLaw) .none kV28 dc28 pm28 an28 cd28 ct28, fun s v => .of_eq rfl, fun base _ _ hC hB => ?_⟩
  have g1 := ok_mask (P := l.prog) (w := w) (mg := mg) (base := base) F1  
  have g2 := ok_rowOf (P := l.prog) (w := w) (base := base) F2  n_len n_enumerate
  have g3 := ok_less (P := l.prog) (w := w) (base := base) F3  n_min
  have g4 := ok_redu (P := l.prog) (w := w) (base := base) F4 g3 b3 k3 m3 n_min n_sorted
  have g5 := ok_sums (P := l.prog) (w := w) (mg := mg) (base := base) F5  
  have g6 := ok_lead (P := l.prog) (w := w) (mg := mg) (base := base) F6  
  have g7 := ok_crM (P := l.prog) (w := w) (base := base) F7 g6 b6 k6 m6 n_sum n_range
  have g8 := ok_tabF (P := l.prog) (w := w) (base := base) F8 g2 b2 k2 m2 g4 b4 k4 m4 n_list
  have g9 := ok_stepM (P := l.prog) (w := w) (base := base) F9 g1 b1 k1 m1 g4 b4 k4 m4 
  have g10 := ok_cross (P := l.prog) (w := w) (base := base) F10 g8 b8 k8 m8 g7 b7 k7 m7 g9 b9 k9 m9 n_len
  have g11 := ok_ties (P := l.prog) (w := w) (mg := mg) (base := base) F11  
  have g12 := ok_points (P := l.prog) (w := w) (base := base) F12  n_sorted
  have g13 := ok_met (P := l.prog) (w := w) (mg := mg) (base := base) F13  
  have g14 := ok_table (P := l.prog) (w := w) (base := base) F14 g10 b10 k10 m10 g11 b11 k11 m11 g13 b13 k13 m13 g12 b12 k12 m12 
  have g15 := ok_cut (P := l.prog) (w := w) (mg := mg) (base := base) F15  
  have g16 := ok_inOrd (P := l.prog) (w := w) (base := base) F16 (code_of F16 a16 ht) hC hB  n_len n_sorted
  have g17 := ok_rmas (P := l.prog) (w := w) (base := base) F17 g5 b5 k5 m5 n_sorted n_any
  have g18 := ok_rounds (P := l.prog) (w := w) (base := base) F18 g16 b16 k16 m16 g17 b17 k17 m17 g9 b9 k9 m9 g2 b2 k2 m2 
  have g19 := ok_walls (P := l.prog) (w := w) (base := base) F19 g18 b18 k18 m18 g10 b10 k10 m10 
  have g20 := ok_cell (P := l.prog) (w := w) (base := base) F20  n_len
  have g21 := ok_big (P := l.prog) (w := w) (base := base) F21 g20 b20 k20 m20 n_range n_abs
  have g22 := ok_names (P := l.prog) (w := w) (base := base) F22  n_range n_len
  have g23 := ok_ends (P := l.prog) (w := w) (base := base) F23  n_range n_len n_list
  have g24 := ok_net (P := l.prog) (w := w) (base := base) F24 g21 b21 k21 m21 g23 b23 k23 m23 g22 b22 k22 m22 n_len n_zip n_tuple n_sorted
  have g25 := ok_lpoints (P := l.prog) (w := w) (base := base) F25  n_sorted n_set
  have g26 := ok_lcut (P := l.prog) (w := w) (base := base) F26  n_int
  have g27 := ok_lrow (P := l.prog) (w := w) (base := base) F27  n_enumerate
  exact ok_law F28 g24 b24 k24 m24 g25 b25 k25 m25 g14 b14 k14 m14 g21 b21 k21 m21 g27 b27 k27 m27 g15 b15 k15 m15 g26 b26 k26 m26 g19 b19 k19 m19 n_range n_list n_len n_sorted n_set n_isinstance n_all
theorem walk {l : PySem.W.OpenLaw} {q : Program} {loose : List Str} {XP : (Str → Option Value) → Heap → Prop} {YP : World → Heap → Prop} {d dr : DefRec} {K : Params → PySem.W.Frag} (hn : l.most = some 63) (hdf : d.params.defaults = [])
    (hY : ∀ (w : World) (h : Heap), YP w h → (K w.params).In h) (hrec : (PyProof.Rows.recsOf q).find? (fun e => e.name == ("in_order" : Str)) = some dr)
    (hK : ∀ w : World, ∃ c T, PySem.W.tabIn (K w.params) "in_order" = some (c, T) ∧ PySem.W.noTabs (K w.params) = true)
    (F : ∀ (w : World) (mg : Str → Option Value) (fa : Addr) (h : Heap) (c T : Addr), (K w.params).In h → h.Ns mainGlobals mg → mg d.name = some (.ref fa) → PySem.W.tabIn (K w.params) "in_order" = some (c, T) →
      ∃ fd : FuncData, (∀ (s : Shared) (u : Value), BindsTo s fd ⟨[u], []⟩ [("_law_script", u)]) ∧ ∀ base : Heap, (K w.params).In base → base.Ns mainGlobals mg → PySem.W.CodeHd base c T → base.BuiltinsAt mg T → FnOk l.prog w (K w.params) mg base CX0 6 fa fd ["_law_script"] (spLaw (K w.params) T)) :
    PySem.W.WalkO q loose XP YP l.row.toRowW d [] (fun f vs => PySem.call f vs) :=
  L2.walk_ofT (n := 63) (k := 6) (x := "_law_script") (CX := fun _ => CX0) (sp := fun w T => spLaw (K w.params) T) hn (by decide) hdf ⟨rfl, by decide, by decide, rfl⟩ hY hrec hK F (fun _ _ _ a ns hl hT hS => ⟨a, ns, rfl, hS, hl, hT, fun _ => rfl⟩) fun _ _ _ _ _ z => z
theorem tab_mk {K : PySem.W.Frag} {x : Str} {f c T : Addr} {ob ob2 : Obj} {fd : FuncData} {vs : Array Value} (a : PySem.W.nsIn K mainGlobals x = some (some (.ref f))) (l : K.lookup f = some ob) (e1 : ob.data = .func fd) (e2 : fd.code = .ref c) (l2 : K.lookup c = some ob2) (e3 : ob2.data = .fields vs) (e4 : (vs[11]? : Option Value) = some (.ref T)) : PySem.W.tabIn K x = some (c, T) := by
  obtain ⟨o1, o2, o3, o4⟩ := ob
  obtain ⟨p1, p2, p3, p4⟩ := ob2
  cases e1
  cases e3
  unfold PySem.W.tabIn
  rw [a]; dsimp only
  rw [l]; dsimp only
  rw [e2]; dsimp only
  rw [l2]; dsimp only
  rw [e4]
end My
open PySem PySem.W PyProof.Rows
set_option maxRecDepth 100000 in
set_option maxHeartbeats 0 in
theorem PySem.Challenge.cw_roundsalone_k22_cuts_holds : PySem.Challenge.rw_roundsalone_k22_cuts.Holds := by
  w_on; o_law; k_head; (case hw => w_witness2)
  k_fill
  refine' My.walk (l := PySem.Challenge.rw_roundsalone_k22_cuts) rfl rfl (fun w h Y => PySem.W.km_in_of Y) ?hr ?Kt ?F
  case hr => rfl
  case Kt =>
    intro w
    refine' ⟨_, _, My.tab_mk ?a ?l ?e1 ?e2 ?l2 ?e3 ?e4, ?n⟩
    (case a => k_is)
    (case l => k_is)
    (case e1 => rfl)
    (case e2 => rfl)
    (case l2 => k_is)
    (case e3 => rfl)
    (case e4 => rfl)
    (case n => kernel_rfl)
  case F =>
    intro w mg fa h c T KX G hmg ht
    refine' My.all_mk KX G hmg ht ?a1 ?l1 ?c1 ?k1 ?a2 ?l2 ?c2 ?k2 ?a3 ?l3 ?c3 ?k3 ?a4 ?l4 ?c4 ?k4 ?a5 ?l5 ?c5 ?k5 ?a6 ?l6 ?c6 ?k6 ?a7 ?l7 ?c7 ?k7 ?a8 ?l8 ?c8 ?k8 ?a9 ?l9 ?c9 ?k9 ?a10 ?l10 ?c10 ?k10 ?a11 ?l11 ?c11 ?k11 ?a12 ?l12 ?c12 ?k12 ?a13 ?l13 ?c13 ?k13 ?a14 ?l14 ?c14 ?k14 ?a15 ?l15 ?c15 ?k15 ?a16 ?l16 ?c16 ?k16 ?a17 ?l17 ?c17 ?k17 ?a18 ?l18 ?c18 ?k18 ?a19 ?l19 ?c19 ?k19 ?a20 ?l20 ?c20 ?k20 ?a21 ?l21 ?c21 ?k21 ?a22 ?l22 ?c22 ?k22 ?a23 ?l23 ?c23 ?k23 ?a24 ?l24 ?c24 ?k24 ?a25 ?l25 ?c25 ?k25 ?a26 ?l26 ?c26 ?k26 ?a27 ?l27 ?c27 ?k27 ?a28 ?l28 ?c28 ?k28 ?z1 ?z2 ?z3 ?z4 ?z5 ?z6 ?z7 ?z8 ?z9 ?z10 ?z11 ?z12 ?z13 ?z14 ?z15
    (case a1 => k_is)
    (case l1 => k_is)
    (case c1 => k_is)
    (case k1 => k_is)
    (case a2 => k_is)
    (case l2 => k_is)
    (case c2 => k_is)
    (case k2 => k_is)
    (case a3 => k_is)
    (case l3 => k_is)
    (case c3 => k_is)
    (case k3 => k_is)
    (case a4 => k_is)
    (case l4 => k_is)
    (case c4 => k_is)
    (case k4 => k_is)
    (case a5 => k_is)
    (case l5 => k_is)
    (case c5 => k_is)
    (case k5 => k_is)
    (case a6 => k_is)
    (case l6 => k_is)
    (case c6 => k_is)
    (case k6 => k_is)
    (case a7 => k_is)
    (case l7 => k_is)
    (case c7 => k_is)
    (case k7 => k_is)
    (case a8 => k_is)
    (case l8 => k_is)
    (case c8 => k_is)
    (case k8 => k_is)
    (case a9 => k_is)
    (case l9 => k_is)
    (case c9 => k_is)
    (case k9 => k_is)
    (case a10 => k_is)
    (case l10 => k_is)
    (case c10 => k_is)
    (case k10 => k_is)
    (case a11 => k_is)
    (case l11 => k_is)
    (case c11 => k_is)
    (case k11 => k_is)
    (case a12 => k_is)
    (case l12 => k_is)
    (case c12 => k_is)
    (case k12 => k_is)
    (case a13 => k_is)
    (case l13 => k_is)
    (case c13 => k_is)
    (case k13 => k_is)
    (case a14 => k_is)
    (case l14 => k_is)
    (case c14 => k_is)
    (case k14 => k_is)
    (case a15 => k_is)
    (case l15 => k_is)
    (case c15 => k_is)
    (case k15 => k_is)
    (case a16 => k_is)
    (case l16 => k_is)
    (case c16 => k_is)
    (case k16 => k_is)
    (case a17 => k_is)
    (case l17 => k_is)
    (case c17 => k_is)
    (case k17 => k_is)
    (case a18 => k_is)
    (case l18 => k_is)
    (case c18 => k_is)
    (case k18 => k_is)
    (case a19 => k_is)
    (case l19 => k_is)
    (case c19 => k_is)
    (case k19 => k_is)
    (case a20 => k_is)
    (case l20 => k_is)
    (case c20 => k_is)
    (case k20 => k_is)
    (case a21 => k_is)
    (case l21 => k_is)
    (case c21 => k_is)
    (case k21 => k_is)
    (case a22 => k_is)
    (case l22 => k_is)
    (case c22 => k_is)
    (case k22 => k_is)
    (case a23 => k_is)
    (case l23 => k_is)
    (case c23 => k_is)
    (case k23 => k_is)
    (case a24 => k_is)
    (case l24 => k_is)
    (case c24 => k_is)
    (case k24 => k_is)
    (case a25 => k_is)
    (case l25 => k_is)
    (case c25 => k_is)
    (case k25 => k_is)
    (case a26 => k_is)
    (case l26 => k_is)
    (case c26 => k_is)
    (case k26 => k_is)
    (case a27 => k_is)
    (case l27 => k_is)
    (case c27 => k_is)
    (case k27 => k_is)
    (case a28 => k_is)
    (case l28 => k_is)
    (case c28 => k_is)
    (case k28 => k_is)
    (case z1 => k_is)
    (case z2 => k_is)
    (case z3 => k_is)
    (case z4 => k_is)
    (case z5 => k_is)
    (case z6 => k_is)
    (case z7 => k_is)
    (case z8 => k_is)
    (case z9 => k_is)
    (case z10 => k_is)
    (case z11 => k_is)
    (case z12 => k_is)
    (case z13 => k_is)
    (case z14 => k_is)
    (case z15 => k_is)
#print axioms PySem.Challenge.cw_roundsalone_k22_cuts_holds
