import PyProof.Rows.All
import Wide.All
import OpenK.AllK
import Wide.FinOn
import Lean
import PyProof.EqAt
import PyProof.EqKinds
import PyProof.TupleCall
import KE.KTryMore
import KE.KIsNot
import PyProof.ExcArgsOwn
import PyProof.ReprBulk
import PyProof.FString5
import PyProof.WalkInts
import PyProof.FString5
import KE.KIsAll
import PyProof.Rows.StrJoin2
import KE.RegKIsAll
import KE.RegKTryMore
import PySem.Challenge.RW_roundsalone_k39_what_is_no_step
set_option Elab.async false
set_option linter.all false
set_option maxRecDepth 100000
namespace L2
open PySem PySem.Spec PyProof.Rows
abbrev Key := Sum Int Str
def keyIs : Key → Value → Bool
  | .inl k, v => Value.isInt k v
  | .inr x, v => Value.isStrOf x v
def keyH (w : World) : Key → Int
  | .inl k => hashInt k
  | .inr x => hashStr w x
theorem keyIs_shape : ∀ {k : Key} {v : Value}, keyIs k v = true → (∃ i t, k = Sum.inl i ∧ v = Value.int i t) ∨ (∃ x t, k = Sum.inr x ∧ v = Value.str x t)
  | .inl i, v, h => by
    obtain ⟨t, e⟩ := Value.isInt_shape (k := i) (v := v) h
    exact .inl ⟨i, t, rfl, e⟩
  | .inr x, v, h => by
    obtain ⟨t, e⟩ := Value.isStrOf_shape (x := x) (v := v) h
    exact .inr ⟨x, t, rfl, e⟩
theorem keyIs_int (i : Int) (t : Tok) : keyIs (.inl i) (.int i t) = true := by simp [keyIs, Value.isInt]
theorem keyIs_str (x : Str) (t : Tok) : keyIs (.inr x) (.str x t) = true := by simp [keyIs, Value.isStrOf]
theorem key_ll (a b : Int) : decide ((Sum.inl a : Key) = Sum.inl b) = (a == b) := by
  by_cases e : a = b
  · subst e; simp
  · have h : ¬ (Sum.inl a : Key) = Sum.inl b := fun q => e (Sum.inl.inj q)
    rw [decide_eq_false h]
    exact (beq_eq_false_iff_ne.mpr e).symm
theorem key_rr (a b : Str) : decide ((Sum.inr a : Key) = Sum.inr b) = decide (a = b) := by
  by_cases e : a = b
  · subst e; simp
  · have h : ¬ (Sum.inr a : Key) = Sum.inr b := fun q => e (Sum.inr.inj q)
    rw [decide_eq_false h, decide_eq_false e]
theorem key_lr (a : Int) (b : Str) : decide ((Sum.inl a : Key) = Sum.inr b) = false := decide_eq_false (fun q => nomatch q)
theorem key_rl (a : Str) (b : Int) : decide ((Sum.inr a : Key) = Sum.inl b) = false := decide_eq_false (fun q => nomatch q)
def mixKind (prog : Program) (w : World) : PySem.KeyKind prog w Key where
  is := keyIs
  hash := keyH w
  inj := fun v a b ha hb => by
    rcases keyIs_shape ha with ⟨i, t, rfl, rfl⟩ | ⟨x, t, rfl, rfl⟩
    · rcases keyIs_shape hb with ⟨j, u, rfl, e⟩ | ⟨y, u, rfl, e⟩
      · injection e with e1 _; rw [e1]
      · exact nomatch e
    · rcases keyIs_shape hb with ⟨j, u, rfl, e⟩ | ⟨y, u, rfl, e⟩
      · exact nomatch e
      · injection e with e1 _; rw [e1]
  byValue := fun k v h => by
    rcases keyIs_shape h with ⟨i, t, rfl, rfl⟩ | ⟨x, t, rfl, rfl⟩ <;> rfl
  pyHash := fun hv h => by
    rcases keyIs_shape hv with ⟨i, t, rfl, rfl⟩ | ⟨x, t, rfl, rfl⟩
    · exact wpAny_pyHash_int h
    · exact wpAny_pyHash_str h
  eqBool := fun hu hv h => by
    rcases keyIs_shape hu with ⟨i, t, rfl, rfl⟩ | ⟨x, t, rfl, rfl⟩
    · rcases keyIs_shape hv with ⟨j, u, rfl, rfl⟩ | ⟨y, u, rfl, rfl⟩
      · rw [key_ll] at h; exact wpAny_eqBool_int h
      · rw [key_lr] at h; exact SeqAt.EqAt.int_str i t y u _ _ _ _ h
    · rcases keyIs_shape hv with ⟨j, u, rfl, rfl⟩ | ⟨y, u, rfl, rfl⟩
      · rw [key_rl] at h; exact SeqAt.EqAt.str_int x t j u _ _ _ _ h
      · rw [key_rr] at h; exact wpAny_eqBool_str h
  «strs» := fun k x t v h => by
    rcases keyIs_shape h with ⟨i, u, rfl, e⟩ | ⟨y, u, rfl, e⟩
    · exact nomatch e
    · injection e with e1 _
      subst e1
      cases v <;> rfl
theorem mixKind_int (prog : Program) (w : World) (i : Int) (t : Tok) : (mixKind prog w).is (.inl i) (.int i t) = true := keyIs_int i t
theorem mixKind_str (prog : Program) (w : World) (x : Str) (t : Tok) : (mixKind prog w).is (.inr x) (.str x t) = true := keyIs_str x t
end L2
namespace L2
open PySem PySem.Spec PyProof.Rows
inductive V where
  | non | bl (b : Bool) | int (i : Int) | str (x : Str) | byt (b : Array UInt8) | flt (b : UInt64) | ref (a : Addr) | ty (n : String)
  deriving DecidableEq
def RelV : V → Value → Prop
  | .non, u => u = Value.none
  | .bl b, u => u = Value.bool b
  | .int i, u => ∃ t, u = Value.int i t
  | .str x, u => ∃ t, u = Value.str x t
  | .byt b, u => ∃ t, u = Value.bytes b t
  | .flt b, u => ∃ t, u = Value.float b t
  | .ref a, u => u = Value.ref a
  | .ty n, u => u = Value.type n
abbrev Vals : List V → List Value → Prop := Paired RelV
theorem Vals.length {xs : List V} {us : List Value} (r : Vals xs us) : xs.length = us.length := Paired.length r
theorem Vals.get : ∀ {xs : List V} {us : List Value} {i : Nat} {x : V}, Vals xs us → xs[i]? = some x → ∃ u, us[i]? = some u ∧ RelV x u
  | _, _, _, _, .nil, e => by simp at e
  | _, _, 0, _, .cons r _, e => by simp at e; subst e; exact ⟨_, rfl, r⟩
  | _, _, i + 1, x, .cons _ t, e => by
    obtain ⟨u, h1, h2⟩ := Vals.get (i := i) (x := x) t (by simpa using e)
    exact ⟨u, by simpa using h1, h2⟩
theorem Vals.set {x : V} {u : Value} (r : RelV x u) : ∀ {xs : List V} {us : List Value} (i : Nat), Vals xs us → Vals (xs.set i x) (us.set i u)
  | _, _, _, .nil => .nil
  | _, _, 0, .cons _ t => .cons r t
  | _, _, i + 1, .cons q t => .cons q (Vals.set r i t)
theorem Vals.append : ∀ {xs ys : List V} {us ws : List Value}, Vals xs us → Vals ys ws → Vals (xs ++ ys) (us ++ ws)
  | _, _, _, _, .nil, s => s
  | _, _, _, _, .cons r t, s => .cons r (Vals.append t s)
theorem Vals.take : ∀ {xs : List V} {us : List Value} (n : Nat), Vals xs us → Vals (xs.take n) (us.take n)
  | _, _, 0, _ => .nil
  | _, _, _ + 1, .nil => .nil
  | _, _, n + 1, .cons r t => .cons r (Vals.take n t)
theorem Vals.drop : ∀ {xs : List V} {us : List Value} (n : Nat), Vals xs us → Vals (xs.drop n) (us.drop n)
  | _, _, 0, r => r
  | _, _, _ + 1, .nil => .nil
  | _, _, n + 1, .cons _ t => Vals.drop n t
theorem Vals.none_of : ∀ {xs : List V} {us : List Value} {i : Nat}, Vals xs us → xs[i]? = none → us[i]? = none := fun {xs us i} r e => by
  have h1 := r.length
  have h2 : xs.length ≤ i := List.getElem?_eq_none_iff.mp e
  exact List.getElem?_eq_none_iff.mpr (by omega)
def RelO : Option V → Option Value → Prop
  | some v, some u => RelV v u
  | none, none => True
  | _, _ => False
def KV {κ : Type} : List (κ × V) → List (κ × Value) → Prop := Paired fun (p : κ × V) (q : κ × Value) => p.1 = q.1 ∧ RelV p.2 q.2
def kV : Key → V
  | .inl i => .int i
  | .inr x => .str x
inductive HO where
    | lst (xs : List V)
    | tup (xs : List V)
    | dK (kvs : List (Key × V)) | dT (kvs : List (List Key × V))
    | set (S : Int → Bool) (n : Nat)
    | ins (C dx : Addr) (fs : List (Str × V))
    | own (x : Addr)
    | xd (fs : List (Str × V))
    | met (f x : Addr)
    | rng (lo hi : Int)
    | frz (o : Obj) (u : HO)
    | tbl (ps : Array Value)
    | ext (φ : Heap → Prop)
abbrev Hp := Addr → Option HO
def upd (H : Hp) (a : Addr) (o : HO) : Hp := fun b => if b = a then some o else H b
theorem upd_same {H : Hp} {a : Addr} {o : HO} : upd H a o a = some o := by unfold upd; rw [if_pos rfl]
theorem upd_ne {H : Hp} {a b : Addr} {o : HO} (h : b ≠ a) : upd H a o b = H b := by unfold upd; rw [if_neg h]
theorem ne_of_none {H : Hp} {a b : Addr} {o : HO} (h : H a = some o) (h' : H b = none) : a ≠ b := by
  intro e; subst e; rw [h] at h'; cases h'
section
variable (P : Program) (w : World)
def ObjOk (H : Hp) (h : Heap) (a : Addr) : HO → Prop
  | .lst xs => xs.length ≤ sizeLine ∧ ∃ (its : List Value) (n : Nat), Vals xs its ∧ h.get? a = some { cls := .type "list", data := .seq its.toArray n }
  | .tup xs => xs.length ≤ sizeLine ∧ ∃ its : List Value, Vals xs its ∧ IsTup h a its.toArray
  | .dK kvs => kvs.length ≤ sizeLine ∧ (a == sysModules) = false ∧ ∃ vs, KV kvs vs ∧ h.DictOf (mixKind P w) a vs
  | .dT kvs => kvs.length ≤ sizeLine ∧ (a == sysModules) = false ∧ ∃ xs : List (List Key × Addr × Value),
      Paired (fun (p : List Key × V) (q : List Key × Addr × Value) => p.1 = q.1 ∧ H q.2.1 = some (.tup (p.1.map kV)) ∧ RelV p.2 q.2.2) kvs xs ∧
      ∃ o es ep, h.get? a = some o ∧ o.ExactDict ∧ o.data = .dict es ep ∧ es.toList = xs.map (entryOfKey (tupleKind (mixKind P w))) ∧ (xs.map (·.1)).Nodup
  | .set S n => h.SetOf (intKind P w) a S n
  | .ins C dx fs => H dx = some (.own a) ∧ fs.length ≤ 1000 ∧ dx ≠ a ∧ h.get? a = some (PySem.W.instObj C dx) ∧
      ∃ mA, h.Ns1 dx mA ∧ (∀ f, RelO (fs.lookup f) (mA f)) ∧ PySem.Within mA (fs.map (·.1))
  | .own _ => ∃ o, h.get? a = some o
  | .xd fs => ∃ mA, h.Ns1 a mA ∧ ∀ f, RelO (fs.lookup f) (mA f)
  | .rng lo hi => ∃ t u v, h.get? a = some { cls := .type "range", data := .fields #[.int lo t, .int hi u, .int 1 v] }
  | .frz o u => h.get? a = some o ∧ ObjOk H h a u
  | .tbl ps => h.get? a = some { cls := .none, data := .fields ps }
  | .met f x => h.get? a = some (PySem.W.methodObj (.ref f) (.ref x))
  | .ext φ => φ h ∧ (∃ o, h.get? a = some o) ∧ ∀ h1 h2 : Heap, φ h1 → (∀ o, h1.get? a = some o → h2.get? a = some o) → φ h2
def HOk (H : Hp) (h : Heap) : Prop := ∀ a o, H a = some o → ObjOk P w H h a o
end
section
variable {P : Program} {w : World} {H H' : Hp} {h h' : Heap} {a : Addr} {o : HO}
theorem ObjOk.lt (x : ObjOk P w H h a o) : a < h.objs.size := by
  cases o with
  | lst xs => obtain ⟨_, _, _, _, e⟩ := x; exact Heap.lt_size e
  | tup xs => obtain ⟨_, _, _, p⟩ := x; exact p.lt
  | dK kvs => obtain ⟨_, _, _, _, o, _, _, e, _⟩ := x; exact Heap.lt_size e
  | dT kvs => obtain ⟨_, _, _, _, o, _, _, e, _⟩ := x; exact Heap.lt_size e
  | set S n => obtain ⟨o, _, _, _, e, _⟩ := x; exact Heap.lt_size e
  | ins C dx fs => obtain ⟨_, _, _, e, _⟩ := x; exact Heap.lt_size e
  | own y => obtain ⟨_, e⟩ := x; exact Heap.lt_size e
  | xd fs => obtain ⟨_, ⟨_, _, _, e, _⟩, _⟩ := x; exact Heap.lt_size e
  | rng lo hi => obtain ⟨_, _, _, e⟩ := x; exact Heap.lt_size e
  | frz ob u => obtain ⟨e, _⟩ := x; exact Heap.lt_size e
  | tbl ps => exact Heap.lt_size (show h.get? a = some _ from x)
  | met f y => exact Heap.lt_size (show h.get? a = some _ from x)
  | ext φ => obtain ⟨_, ⟨_, e⟩, _⟩ := x; exact Heap.lt_size e
theorem Paired.mapP {α β : Type} {F G : α → β → Prop} : ∀ {l₁ : List α} {l₂ : List β}, Paired F l₁ l₂ → (∀ a b, F a b → G a b) → Paired G l₁ l₂
  | _, _, .nil, _ => .nil
  | _, _, .cons r t, f => .cons (f _ _ r) (Paired.mapP t f)
theorem ObjOk.stay (x : ObjOk P w H h a o) (k : ∀ b u, (b = a ∨ H b = some (.own a)) → h.get? b = some u → h'.get? b = some u)
    (ho : ∀ b, H b = some (.own a) → H' b = some (.own a)) (ht : ∀ b xs, H b = some (.tup xs) → H' b = some (.tup xs)) : ObjOk P w H' h' a o := by
  induction o with
  | lst xs => obtain ⟨z, its, n, r, e⟩ := x; exact ⟨z, its, n, r, k _ _ (.inl rfl) e⟩
  | tup xs => obtain ⟨z, its, r, ob, e, c⟩ := x; exact ⟨z, its, r, ob, k _ _ (.inl rfl) e, c⟩
  | dK kvs => obtain ⟨z, y, vs, r, ob, es, ep, e, c⟩ := x; exact ⟨z, y, vs, r, ob, es, ep, k _ _ (.inl rfl) e, c⟩
  | dT kvs =>
    obtain ⟨z, y, xs, r, ob, es, ep, e, c⟩ := x
    exact ⟨z, y, xs, Paired.mapP r fun p q z => ⟨z.1, ht _ _ z.2.1, z.2.2⟩, ob, es, ep, k _ _ (.inl rfl) e, c⟩
  | set S n => obtain ⟨ob, es, ep, t, e, c⟩ := x; exact ⟨ob, es, ep, t, k _ _ (.inl rfl) e, c⟩
  | ins C dx fs =>
    obtain ⟨d, z, ne, e, mA, ⟨od, es, ep, e2, c⟩, r⟩ := x
    exact ⟨ho _ d, z, ne, k _ _ (.inl rfl) e, mA, ⟨od, es, ep, k _ _ (.inr d) e2, c⟩, r⟩
  | own y => obtain ⟨ob, e⟩ := x; exact ⟨ob, k _ _ (.inl rfl) e⟩
  | xd fs => obtain ⟨mA, ⟨od, es, ep, e, c⟩, r⟩ := x; exact ⟨mA, ⟨od, es, ep, k _ _ (.inl rfl) e, c⟩, r⟩
  | rng lo hi => obtain ⟨t, u, v, e⟩ := x; exact ⟨t, u, v, k _ _ (.inl rfl) e⟩
  | frz ob u ih => obtain ⟨e, q⟩ := x; exact ⟨k _ _ (.inl rfl) e, ih q⟩
  | tbl ps =>
    have e : h.get? a = some { cls := .none, data := .fields ps } := x
    show h'.get? a = some { cls := .none, data := .fields ps }
    exact k a _ (.inl rfl) e
  | met f y =>
    have e : h.get? a = some (PySem.W.methodObj (.ref f) (.ref y)) := x
    show h'.get? a = some (PySem.W.methodObj (.ref f) (.ref y))
    exact k a _ (.inl rfl) e
  | ext φ => obtain ⟨p, ⟨o, e⟩, st⟩ := x; exact ⟨st _ _ p fun o q => k _ _ (.inl rfl) q, ⟨o, k _ _ (.inl rfl) e⟩, st⟩
theorem HOk.lt (x : HOk P w H h) (e : H a = some o) : a < h.objs.size := (x a o e).lt
theorem HOk.fresh (x : HOk P w H h) (e : h.objs.size ≤ a) : H a = none := by
  cases q : H a with
  | none => rfl
  | some u => exact absurd (Nat.lt_of_lt_of_le (x.lt q) e) (Nat.lt_irrefl _)
theorem HOk.kept (x : HOk P w H h) (k : ∀ b u, h.get? b = some u → h'.get? b = some u) : HOk P w H h' := fun a o e =>
  (x a o e).stay (fun b u _ q => k b u q) (fun _ q => q) fun _ _ q => q
theorem HOk.laid (x : HOk P w H h) (k : ∀ b u, h.get? b = some u → h'.get? b = some u) (hp : h.objs.size ≤ a) (new : ObjOk P w (upd H a o) h' a o) : HOk P w (upd H a o) h' := fun b u e => by
  have hn := x.fresh hp
  by_cases hb : b = a
  · subst hb; rw [upd_same] at e; cases e; exact new
  · rw [upd_ne hb] at e
    exact (x b u e).stay (fun c v _ q => k c v q) (fun c q => by rw [upd_ne (ne_of_none q hn)]; exact q) fun c xs q => by rw [upd_ne (ne_of_none q hn)]; exact q
end
def Rd (H : Hp) (a : Addr) (u : HO) : Prop := H a = some u ∨ ∃ o, H a = some (.frz o u)
theorem Rd.of {H : Hp} {a : Addr} {u : HO} (h : H a = some u) : Rd H a u := .inl h
theorem Rd.ok {P : Program} {w : World} {H : Hp} {h : Heap} {a : Addr} {u : HO} (r : Rd H a u) (x : HOk P w H h) : ObjOk P w H h a u := by
  rcases r with r | ⟨o, r⟩
  · exact x a u r
  · obtain ⟨_, q⟩ := x a _ r
    exact q
def Mut : Option HO → Prop
  | some (.lst _) => True
  | some (.dK _) => True
  | some (.dT _) => True
  | some (.set _ _) => True
  | some (.ins _ _ _) => True
  | some (.ext _) => True
  | _ => False
section
variable {P : Program} {w : World} {H : Hp} {h h' : Heap} {x e : Addr} {o' : HO}
theorem HOk.write (ok : HOk P w H h) (mu : Mut (H x)) (he : e = x ∨ H e = some (.own x)) (k : ∀ b u, b ≠ e → h.get? b = some u → h'.get? b = some u) (heo : ∃ u, h'.get? e = some u)
    (new : ObjOk P w (upd H x o') h' x o') : HOk P w (upd H x o') h' := fun b u q => by
  have nown : ∀ c y, H c = some (.own y) → c ≠ x := fun c y r z => by subst z; rw [r] at mu; exact mu
  have ntup : ∀ c xs, H c = some (.tup xs) → c ≠ x := fun c xs r z => by subst z; rw [r] at mu; exact mu
  by_cases hb : b = x
  · subst hb; rw [upd_same] at q; cases q; exact new
  · rw [upd_ne hb] at q
    by_cases hbe : b = e
    · have q' : H b = some (.own x) := by
        rcases he with z | z
        · exact absurd (hbe.trans z) hb
        · rw [hbe]; exact z
      rw [q] at q'; cases q'
      obtain ⟨v, hv⟩ := heo
      exact ⟨v, by rw [hbe]; exact hv⟩
    · refine (ok b u q).stay (fun c v hc r => k c v ?_ r) (fun c r => by rw [upd_ne (nown c b r)]; exact r) fun c xs r => by rw [upd_ne (ntup c xs r)]; exact r
      rcases hc with rfl | hc
      · exact hbe
      · rintro rfl
        rcases he with z | z
        · exact nown c b hc z
        · rw [hc] at z; cases z; exact hb rfl
end
structure Un (fs ex : List Addr) (H H' : Hp) (h h' : Heap) : Prop where
  keep : ∀ b o, h.get? b = some o → H b = none → b ∉ fs → b ∉ ex → h'.get? b = some o
  slot : ∀ b o, h.get? b = some o → H b = none → b ∈ fs → b ∉ ex → ∃ sl, h'.get? b = some { o with slots := sl }
  free : ∀ b o, h.get? b = some o → H b = none → b ∉ ex → H' b = none
  there : ∀ b o, h.get? b = some o → b ∉ ex → ∃ o', h'.get? b = some o'
  tups : ∀ b xs, H b = some (.tup xs) → H' b = some (.tup xs)
  frzs : ∀ b o u, H b = some (.frz o u) → H' b = some (.frz o u)
  tbls : ∀ b ps, H b = some (.tbl ps) → ∃ more, H' b = some (.tbl (ps ++ more))
section
variable {fs fs' ex ex' : List Addr} {H H1 H2 : Hp} {h h1 h2 h' : Heap} {a x e : Addr} {o : HO}
theorem Un.any (u : Un fs ex H H1 h h1) {b : Addr} {ob : Obj} (q : h.get? b = some ob) (n : H b = none) (hx : b ∉ ex) : ∃ sl, h1.get? b = some { ob with slots := sl } := by
  by_cases hb : b ∈ fs
  · exact u.slot b ob q n hb hx
  · exact ⟨ob.slots, u.keep b ob q n hb hx⟩
theorem Un.trans (a : Un fs ex H H1 h h1) (b : Un fs ex H1 H2 h1 h2) : Un fs ex H H2 h h2 where
  keep := fun c ob q n hc hx => b.keep c ob (a.keep c ob q n hc hx) (a.free c ob q n hx) hc hx
  slot := fun c ob q n hc hx => by
    obtain ⟨sl, e1⟩ := a.slot c ob q n hc hx
    obtain ⟨sl', e2⟩ := b.slot c _ e1 (a.free c ob q n hx) hc hx
    exact ⟨sl', e2⟩
  free := fun c ob q n hx => by
    obtain ⟨o', e1⟩ := a.there c ob q hx
    exact b.free c o' e1 (a.free c ob q n hx) hx
  there := fun c ob q hx => by
    obtain ⟨o', e1⟩ := a.there c ob q hx
    exact b.there c o' e1 hx
  tups := fun c xs q => b.tups c xs (a.tups c xs q)
  frzs := fun c ob xs q => b.frzs c ob xs (a.frzs c ob xs q)
  tbls := fun c ps q => by
    obtain ⟨m1, e1⟩ := a.tbls c ps q
    obtain ⟨m2, e2⟩ := b.tbls c _ e1
    exact ⟨m1 ++ m2, by rw [e2, Array.append_assoc]⟩
theorem Un.kept (k : ∀ b u, h.get? b = some u → h'.get? b = some u) : Un fs ex H H h h' :=
  ⟨fun b ob q _ _ _ => k b ob q, fun b ob q _ _ _ => ⟨ob.slots, k b ob q⟩, fun _ _ _ n _ => n, fun b ob q _ => ⟨ob, k b ob q⟩, fun _ _ q => q, fun _ _ _ q => q, fun _ ps q => ⟨#[], by rw [q]; simp⟩⟩
theorem Un.refl : Un fs ex H H h h := Un.kept fun _ _ q => q
theorem Un.laid (k : ∀ b u, h.get? b = some u → h'.get? b = some u) (hp : h.objs.size ≤ a) (hn : H a = none) : Un fs ex H (upd H a o) h h' where
  keep := fun b u q _ _ _ => k b u q
  slot := fun b u q _ _ _ => ⟨u.slots, k b u q⟩
  free := fun b u q n _ => by rw [upd_ne (Nat.ne_of_lt (Nat.lt_of_lt_of_le (Heap.lt_size q) hp))]; exact n
  there := fun b u q _ => ⟨u, k b u q⟩
  tups := fun b xs q => by rw [upd_ne (ne_of_none q hn)]; exact q
  frzs := fun b u xs q => by rw [upd_ne (ne_of_none q hn)]; exact q
  tbls := fun b ps q => ⟨#[], by rw [upd_ne (ne_of_none q hn), q]; simp⟩
theorem Un.write (mu : Mut (H x)) (he : e = x ∨ H e = some (.own x)) (k : ∀ b u, b ≠ e → h.get? b = some u → h'.get? b = some u) (heo : ∃ u, h'.get? e = some u) : Un fs ex H (upd H x o) h h' := by
  have hx : ∀ b, H b = none → b ≠ x := fun b n z => by subst z; rw [n] at mu; exact mu
  have hb : ∀ b, H b = none → b ≠ e := fun b n z => by
    subst z
    rcases he with r | r
    · exact hx b n r
    · rw [n] at r; cases r
  have hm : ∀ b u, H b = some u → ¬ Mut (some u) → b ≠ x := fun b u q nm z => by subst z; rw [q] at mu; exact nm mu
  refine ⟨fun b u q n _ _ => k b u (hb b n) q, fun b u q n _ _ => ⟨u.slots, k b u (hb b n) q⟩, fun b u q n _ => by rw [upd_ne (hx b n)]; exact n, fun b u q _ => ?_,
    fun b xs q => by rw [upd_ne (hm b _ q fun z => z)]; exact q, fun b u xs q => by rw [upd_ne (hm b _ q fun z => z)]; exact q, fun b ps q => ⟨#[], by rw [upd_ne (hm b _ q fun z => z), q]; simp⟩⟩
  by_cases hbe : b = e
  · subst hbe; exact heo
  · exact ⟨u, k b u hbe q⟩
theorem Un.mono (u : Un fs ex H H1 h h1) (hs : ∀ b ∈ fs, b ∈ fs') (hx : ∀ b ∈ ex, b ∈ ex') : Un fs' ex' H H1 h h1 :=
  ⟨fun b ob q n hb he => u.keep b ob q n (fun z => hb (hs b z)) fun z => he (hx b z), fun _ _ q n _ he => u.any q n fun z => he (hx _ z), fun b ob q n he => u.free b ob q n fun z => he (hx b z), fun b ob q he => u.there b ob q fun z => he (hx b z), u.tups, u.frzs, u.tbls⟩
end
def trk (h : Heap) (H : Hp) : List Addr := (List.range h.objs.size).filter fun a => (H a).isSome
def hidT (h : Heap) (H : Hp) : Heap := PySem.W.hideAll h (trk h H)
theorem hidT_size (h : Heap) (H : Hp) : (hidT h H).objs.size = h.objs.size := PySem.W.hideAll_size _ _
theorem hidT_get {h : Heap} {H : Hp} {b : Addr} {o : Obj} (e : h.get? b = some o) (n : H b = none) : (hidT h H).get? b = some o :=
  PySem.W.hideAll_get _ e fun hm => by
    have q : (H b).isSome = true := (List.mem_filter.mp hm).2
    rw [n] at q; simp at q
theorem of_hidT {h : Heap} {H : Hp} {b : Addr} {o : Obj} (e : (hidT h H).get? b = some o) : h.get? b = some o ∧ H b = none := by
  have e' : h.get? b = some o := PySem.W.of_hideAll (trk h H) e
  refine ⟨e', ?_⟩
  cases q : H b with
  | none => rfl
  | some x =>
    have hm : b ∈ trk h H := List.mem_filter.mpr ⟨List.mem_range.mpr (Heap.lt_size e'), by simp [q]⟩
    have z : (hidT h H).get? b = none := PySem.W.hideAll_none (trk h H) hm
    rw [z] at e; cases e
def allNews (g h : Heap) (L : Addr) : List (Addr × Obj) := (List.range h.objs.size).filterMap fun a => if a = L ∨ (g.get? a).isSome = true then none else (h.get? a).map fun o => (a, o)
def rest (g h : Heap) (L d : Addr) : List (Addr × Obj) := (allNews g h L).filter fun p => decide (p.1 ≠ d)
end L2
namespace L2
open PySem PySem.Spec PyProof.Rows
structure Mod (K : PySem.W.Frag) (mg : Str → Option Value) (base : Heap) : Prop where
  kin : K.In base
  glob : base.Ns mainGlobals mg
  blt : ∃ mb, base.Ns builtinsNs mb ∧ ∀ x : Str, x ≠ "__name__" → mb x = bootBuiltins x
  nolimit : base.NoLimit
structure Cx where
  prog : Program
  w : World
  K : PySem.W.Frag
  mg : Str → Option Value
  base : Heap
  A : Around
  N : List Str
  s₀ : Shared
  H₀ : Hp
  env : Env
  outer : List Env
  stack : List Env
  ex : List Addr
  fn : Str → Bool
  calm : Bool
  pn : List (Addr × Obj)
  xe : Value → Shared → Prop
def frs (l : List Env) : List Addr := l.filterMap (·.frame)
abbrev Cx.fs (X : Cx) : List Addr := frs X.outer
def Vis (sc : Scope) (x : Str) : Prop := sc.names.lookup x = some .local ∨ sc.names.lookup x = some .cell ∨ sc.names.lookup x = some .free
def Loc (sc : Scope) (x : Str) : Prop := sc.names.lookup x = some .local ∨ sc.names.lookup x = some .cell
def Look (env : Env) (h : Heap) (m : Str → Option Value) (x : Str) (u : Value) : Prop :=
  (env.kindOf x = some .local ∧ m x = some u) ∨ ((env.kindOf x = some .cell ∨ env.kindOf x = some .free) ∧ ∃ c, env.cells.lookup x = some c ∧ h.IsCell c (some u))
structure Cx.Ok (X : Cx) : Prop where
  mod : Mod X.K X.mg X.base
  kind : X.env.scope.kind = .function
  glob : X.env.globals = mainGlobals
  blt : X.env.builtins = builtinsNs
  above : X.s₀.heap.objs.size ≤ X.env.locals
  inj : ∀ x y c, X.env.cells.lookup x = some c → X.env.cells.lookup y = some c → x = y
  has : ∀ x, (X.env.kindOf x = some .cell ∨ X.env.kindOf x = some .free) → ∃ c, X.env.cells.lookup x = some c
  cab : ∀ x c, X.fn x = true → X.env.cells.lookup x = some c → X.s₀.heap.objs.size ≤ c
  hd : X.calm = true → X.A.handled = none
  frames : X.A.frames = some X.stack
  stk : X.stack = X.outer ∨ (X.stack = X.env :: X.outer ∧ X.env.frame = some X.env.locals)
  exf : ∀ b ∈ X.ex, b ≠ X.env.locals ∧ ∀ x c, X.env.cells.lookup x = some c → c ≠ b
  bs : ∀ b o, X.base.get? b = some o → X.s₀.heap.get? b = some o ∧ X.H₀ b = none
  bsz : X.base.objs.size ≤ X.s₀.heap.objs.size
  noex : ∀ b o, X.base.get? b = some o → b ∉ X.ex
  exfs : ∀ b ∈ X.ex, b ∉ X.fs
  funs : X.s₀.heap.FunFrames X.base X.outer
  frf : ∀ b ∈ X.fs, X.H₀ b = none
structure Inv (X : Cx) (pins : List (Addr × Obj)) (σ : List (Option V)) (H : Hp) (s : Shared) : Prop where
  ok : X.Ok
  os : s.os = X.s₀.os
  bare : AllBare s.gens
  base : Un X.fs X.ex X.H₀ H X.s₀.heap s.heap
  loc : ∃ m, s.heap.Ns X.env.locals m ∧ ∀ (i : Nat) (x : Str) (v : V), X.N[i]? = some x → σ[i]? = some (some v) → Vis X.env.scope x → ∃ u, RelV v u ∧ Look X.env s.heap m x u
  cell : ∀ x c, X.env.cells.lookup x = some c → ∃ v, s.heap.IsCell c v
  free : H X.env.locals = none
  freeC : ∀ x c, X.env.cells.lookup x = some c → H c = none
  pin : ∀ p ∈ X.pn ++ pins, s.heap.get? p.1 = some p.2 ∧ H p.1 = none ∧ p.1 ≠ X.env.locals ∧ p.1 ∉ X.fs ∧ ∀ v, p.2.data ≠ .cell v
  hok : HOk X.prog X.w H s.heap
  len : σ.length = X.N.length
section
variable {X : Cx} {pins : List (Addr × Obj)} {σ : List (Option V)} {H H' : Hp} {s : Shared} {h' : Heap}
theorem Cx.Ok.nofr (ok : X.Ok) {b : Addr} {o : Obj} (e : X.base.get? b = some o) : b ∉ X.fs := fun hb => by
  have := (ok.funs.mem hb).1
  rw [e] at this; cases this
theorem Inv.bs (I : Inv X pins σ H s) : ∀ b o, X.base.get? b = some o → s.heap.get? b = some o ∧ H b = none := fun b o e =>
  ⟨I.base.keep b o (I.ok.bs b o e).1 (I.ok.bs b o e).2 (I.ok.nofr e) (I.ok.noex b o e), I.base.free b o (I.ok.bs b o e).1 (I.ok.bs b o e).2 (I.ok.noex b o e)⟩
theorem Inv.bk (I : Inv X pins σ H s) : ∀ b o, X.base.get? b = some o → s.heap.get? b = some o := fun b o e => (I.bs b o e).1
theorem Inv.mod (I : Inv X pins σ H s) : Mod X.K X.mg X.base := I.ok.mod
theorem Inv.kIn (I : Inv X pins σ H s) : X.K.In s.heap := I.ok.mod.kin.keeps I.bk
theorem Inv.nolimit (I : Inv X pins σ H s) : s.heap.NoLimit := I.ok.mod.nolimit.keeps I.bk
theorem Inv.fr (I : Inv X pins σ H s) : ∃ m, Fr X.base X.env.locals s.heap m :=
  let ⟨m, hn, _⟩ := I.loc
  ⟨m, hn, I.bk, Nat.le_trans I.ok.bsz I.ok.above⟩
theorem Inv.lt (I : Inv X pins σ H s) : X.env.locals < s.heap.objs.size := let ⟨_, hn, _⟩ := I.loc; hn.lt
theorem Inv.sz (I : Inv X pins σ H s) : X.s₀.heap.objs.size ≤ s.heap.objs.size := Nat.le_trans I.ok.above (Nat.le_of_lt I.lt)
theorem Inv.nofs (I : Inv X pins σ H s) {a : Addr} (h : s.heap.objs.size ≤ a) : a ∉ X.fs := fun hb => by
  obtain ⟨_, o, ho, _⟩ := I.ok.funs.mem hb
  exact absurd (Nat.lt_of_lt_of_le (Heap.lt_size ho) (Nat.le_trans I.sz h)) (Nat.lt_irrefl _)
theorem Inv.cne (I : Inv X pins σ H s) : ∀ x c, X.env.cells.lookup x = some c → c ≠ X.env.locals := fun x c e z => by
  obtain ⟨v, o, ho, hd⟩ := I.cell x c e
  obtain ⟨m, ⟨o', es, ep, ho', hd', _⟩, _⟩ := I.loc
  rw [z, ho'] at ho; cases ho; rw [hd'] at hd; cases hd
theorem Inv.funs (I : Inv X pins σ H s) : s.heap.FunFrames X.base X.outer := by
  have all : ∀ (l : List Env), (∀ b ∈ frs l, b ∈ X.fs) → X.s₀.heap.FunFrames X.base l → s.heap.FunFrames X.base l := by
    intro l
    induction l with
    | nil => intro _ _; trivial
    | cons env r ih =>
      intro hs hl
      obtain ⟨hk, ⟨L, o, hf, hn, ho, hd⟩, hr⟩ := hl
      have hL : L ∈ X.fs := hs L (by unfold frs; rw [List.filterMap_cons, hf]; exact List.mem_cons_self)
      obtain ⟨sl, e⟩ := I.base.slot L o ho (I.ok.frf L hL) hL fun z => I.ok.exfs L z hL
      exact ⟨hk, ⟨L, _, hf, hn, e, hd⟩, ih (fun b hb => hs b (by unfold frs; rw [List.filterMap_cons, hf]; exact List.mem_cons_of_mem _ hb)) hr⟩
  exact all X.outer (fun _ hb => hb) I.ok.funs
theorem Inv.stack (I : Inv X pins σ H s) : s.heap.FunFrames X.base X.stack := by
  rcases I.ok.stk with e | ⟨e, hf⟩
  · rw [e]; exact I.funs
  · rw [e]
    obtain ⟨m, hn, _⟩ := I.loc
    refine .cons (by rw [I.ok.kind]; decide) hf hn ?_ I.funs
    exact Heap.get?_none_of_le (Nat.le_trans I.ok.bsz I.ok.above)
theorem Inv.stkSub (I : Inv X pins σ H s) : ∀ b ∈ frs X.stack, b ∈ X.env.locals :: X.fs := fun b hb => by
  rcases I.ok.stk with e | ⟨e, hf⟩
  · rw [e] at hb; exact List.mem_cons_of_mem _ hb
  · rw [e] at hb
    unfold frs at hb
    rw [List.filterMap_cons, hf] at hb
    exact hb
theorem Inv.stkFree (I : Inv X pins σ H s) : ∀ b ∈ frs X.stack, H b = none := fun b hb => by
  rcases List.mem_cons.mp (I.stkSub b hb) with e | hb
  · rw [e]; exact I.free
  · obtain ⟨_, o, ho, _⟩ := I.ok.funs.mem hb
    exact I.base.free b o ho (I.ok.frf b hb) fun z => I.ok.exfs b z hb
theorem Inv.step {g' : Array GenState} {t' : Nat} {d' : Drawn} {ch : List Addr} (I : Inv X pins σ H s)
    (hch : ∀ b ∈ ch, (b ∈ X.ex ∨ X.s₀.heap.objs.size ≤ b) ∧ b ≠ X.env.locals ∧ (∀ x c, X.env.cells.lookup x = some c → c ≠ b) ∧ ∀ p ∈ X.pn ++ pins, p.1 ≠ b)
    (keep : ∀ b o, b ≠ X.env.locals → b ∉ X.fs → b ∉ ch → s.heap.get? b = some o → H b = none → h'.get? b = some o)
    (slot : ∀ b o, b ≠ X.env.locals → b ∈ X.fs → b ∉ ch → s.heap.get? b = some o → H b = none → ∃ sl, h'.get? b = some { o with slots := sl }) (free : ∀ b o, b ∉ ch → s.heap.get? b = some o → H b = none → H' b = none)
    (there : ∀ b o, b ∉ ch → s.heap.get? b = some o → ∃ o', h'.get? b = some o')
    (tups : ∀ b xs, H b = some (.tup xs) → H' b = some (.tup xs)) (frzs : ∀ b o u, H b = some (.frz o u) → H' b = some (.frz o u)) (tbls : ∀ b ps, H b = some (.tbl ps) → ∃ more, H' b = some (.tbl (ps ++ more)))
    (ns : ∀ m, s.heap.Ns X.env.locals m → h'.Ns X.env.locals m) (hok : HOk X.prog X.w H' h') (hg : AllBare g') :
    Inv X pins σ H' { s with heap := h', gens := g', drawn := d', toks := t' } := by
  have neL : ∀ b o, X.s₀.heap.get? b = some o → b ≠ X.env.locals := fun b o e => Nat.ne_of_lt (Nat.lt_of_lt_of_le (Heap.lt_size e) I.ok.above)
  have neC : ∀ b o, X.s₀.heap.get? b = some o → b ∉ X.ex → b ∉ ch := fun b o e hx hb => by
    rcases (hch b hb).1 with z | z
    · exact hx z
    · exact absurd (Nat.lt_of_lt_of_le (Heap.lt_size e) z) (Nat.lt_irrefl _)
  have cellK : ∀ x c, X.env.cells.lookup x = some c → ∀ v, s.heap.IsCell c v → h'.IsCell c v := fun x c e v ⟨o, ho, hd⟩ => by
    have nch : c ∉ ch := fun z => (hch c z).2.2.1 x c e rfl
    by_cases hc : c ∈ X.fs
    · obtain ⟨sl, q⟩ := slot c o (I.cne x c e) hc nch ho (I.freeC x c e)
      exact ⟨_, q, hd⟩
    · exact ⟨o, keep c o (I.cne x c e) hc nch ho (I.freeC x c e), hd⟩
  refine ⟨I.ok, I.os, hg, ⟨fun b o e n hb hx => ?_, fun b o e n hb hx => ?_, fun b o e n hx => ?_, fun b o e hx => ?_, fun b xs e => tups b xs (I.base.tups b xs e), fun b o xs e => frzs b o xs (I.base.frzs b o xs e), fun b ps e => ?_⟩, ?_, fun x c e => ?_, ?_, fun x c e => ?_, fun p hp => ?_, hok, I.len⟩
  · exact keep b o (neL b o e) hb (neC b o e hx) (I.base.keep b o e n hb hx) (I.base.free b o e n hx)
  · obtain ⟨sl, e1⟩ := I.base.slot b o e n hb hx
    obtain ⟨sl', e2⟩ := slot b _ (neL b o e) hb (neC b o e hx) e1 (I.base.free b o e n hx)
    exact ⟨sl', e2⟩
  · obtain ⟨o', e1⟩ := I.base.there b o e hx
    exact free b o' (neC b o e hx) e1 (I.base.free b o e n hx)
  · obtain ⟨o', e1⟩ := I.base.there b o e hx
    exact there b o' (neC b o e hx) e1
  · obtain ⟨m1, e1⟩ := I.base.tbls b ps e
    obtain ⟨m2, e2⟩ := tbls b _ e1
    exact ⟨m1 ++ m2, by rw [e2, Array.append_assoc]⟩
  · obtain ⟨m, hn, hl⟩ := I.loc
    refine ⟨m, ns m hn, fun i x v e1 e2 e3 => ?_⟩
    obtain ⟨u, r, l⟩ := hl i x v e1 e2 e3
    refine ⟨u, r, ?_⟩
    rcases l with l | ⟨k, c, e, z⟩
    · exact .inl l
    · exact .inr ⟨k, c, e, cellK x c e _ z⟩
  · obtain ⟨v, z⟩ := I.cell x c e
    exact ⟨v, cellK x c e v z⟩
  · obtain ⟨m, ⟨o, _, _, ho, _⟩, _⟩ := I.loc
    exact free _ o (fun z => (hch _ z).2.1 rfl) ho I.free
  · obtain ⟨v, o, ho, hd⟩ := I.cell x c e
    exact free c o (fun z => (hch c z).2.2.1 x c e rfl) ho (I.freeC x c e)
  · obtain ⟨e, n, ne, nf, d⟩ := I.pin p hp
    have nch : p.1 ∉ ch := fun z => (hch p.1 z).2.2.2 p hp rfl
    exact ⟨keep p.1 p.2 ne nf nch e n, free p.1 p.2 nch e n, ne, nf, d⟩
theorem Inv.un {t' : Nat} (I : Inv X pins σ H s) (u : Un X.fs [] H H' s.heap h') (hok : HOk X.prog X.w H' h') : Inv X pins σ H' { s with heap := h', toks := t' } := by
  obtain ⟨m, ⟨o, es, ep, ho, r⟩, _⟩ := id I.loc
  obtain ⟨sl, hL⟩ := u.any ho I.free (by simp)
  exact I.step (g' := s.gens) (d' := s.drawn) (ch := []) (fun _ z => nomatch z) (fun b o _ hb _ e n => u.keep b o e n hb (by simp)) (fun b o _ hb _ e n => u.slot b o e n hb (by simp)) (fun b o _ e n => u.free b o e n (by simp)) (fun b o _ e => u.there b o e (by simp)) u.tups u.frzs u.tbls (fun m' hm => by
    obtain ⟨o', es', ep', ho', r'⟩ := hm
    rw [ho] at ho'; cases ho'
    exact ⟨_, es', ep', hL, r'⟩) hok I.bare
theorem Inv.call {g' : Array GenState} {t' : Nat} {d' : Drawn} {ch : List Addr} (I : Inv X pins σ H s) (u : Un (frs X.stack) ch H H' s.heap h') (hok : HOk X.prog X.w H' h') (hg : AllBare g')
    (hch : ∀ b ∈ ch, (b ∈ X.ex ∨ X.s₀.heap.objs.size ≤ b) ∧ b ≠ X.env.locals ∧ (∀ x c, X.env.cells.lookup x = some c → c ≠ b) ∧ ∀ p ∈ X.pn ++ pins, p.1 ≠ b) :
    Inv X pins σ H' { s with heap := h', gens := g', drawn := d', toks := t' } := by
  obtain ⟨m, ⟨o, es, ep, ho, r⟩, _⟩ := id I.loc
  obtain ⟨sl, hL⟩ := u.any ho I.free fun z => (hch _ z).2.1 rfl
  exact I.step (ch := ch) hch (fun b o hL hb hc e n => u.keep b o e n (fun z => (List.mem_cons.mp (I.stkSub b z)).elim hL hb) hc) (fun b o _ _ hc e n => u.any e n hc) (fun b o hc e n => u.free b o e n hc) (fun b o hc e => u.there b o e hc) u.tups u.frzs u.tbls (fun m' hm => by
    obtain ⟨o', es', ep', ho', r'⟩ := hm
    rw [ho] at ho'; cases ho'
    exact ⟨_, es', ep', hL, r'⟩) hok hg
theorem Inv.turned {t' : Nat} {it : Addr} (I : Inv X pins σ H s) (k : ∀ b o, b ≠ it → s.heap.get? b = some o → h'.get? b = some o) (hn : H it = none) (hL : it ≠ X.env.locals)
    (h1 : it ∈ X.ex ∨ X.s₀.heap.objs.size ≤ it) (h2 : ∀ x c, X.env.cells.lookup x = some c → c ≠ it) (h3 : ∀ p ∈ X.pn ++ pins, p.1 ≠ it) : Inv X pins σ H { s with heap := h', toks := t' } := by
  have nit : ∀ b u, H b = some u → b ≠ it := fun b u e z => by rw [z, hn] at e; cases e
  refine I.step (g' := s.gens) (d' := s.drawn) (ch := [it]) (fun b hb => ?_) (fun b o _ _ hc e _ => k b o (fun z => hc (by simp [z])) e) (fun b o _ _ hc e _ => ⟨o.slots, k b o (fun z => hc (by simp [z])) e⟩) (fun _ _ _ _ n => n)
    (fun b o hc e => ⟨o, k b o (fun z => hc (by simp [z])) e⟩) (fun _ _ e => e) (fun _ _ _ e => e) (fun b ps e => ⟨#[], by rw [e]; simp⟩) (fun m hm => ?_) (fun b u e => ?_) I.bare
  · have e : b = it := by simpa using hb
    subst e
    exact ⟨h1, hL, h2, h3⟩
  · obtain ⟨o, es, ep, ho, r⟩ := hm
    exact ⟨o, es, ep, k _ o (Ne.symm hL) ho, r⟩
  · refine (I.hok b u e).stay (fun c v hc q => k c v ?_ q) (fun _ q => q) fun _ _ q => q
    rcases hc with z | z
    · rw [z]; exact nit b u e
    · exact nit c _ z
theorem Inv.tok (I : Inv X pins σ H s) (t : Nat) : Inv X pins σ H { s with toks := t } := I.un (h' := s.heap) (t' := t) Un.refl I.hok
theorem Inv.kept {t' : Nat} (I : Inv X pins σ H s) (k : ∀ b u, s.heap.get? b = some u → h'.get? b = some u) : Inv X pins σ H { s with heap := h', toks := t' } := I.un (Un.kept k) (I.hok.kept k)
theorem Inv.laid {a : Addr} {o : HO} {t' : Nat} (I : Inv X pins σ H s) (k : ∀ b u, s.heap.get? b = some u → h'.get? b = some u) (hp : s.heap.objs.size ≤ a) (new : ObjOk X.prog X.w (upd H a o) h' a o) :
    Inv X pins σ (upd H a o) { s with heap := h', toks := t' } := I.un (Un.laid k hp (I.hok.fresh hp)) (I.hok.laid k hp new)
theorem Inv.write {x e : Addr} {o : HO} {t' : Nat} (I : Inv X pins σ H s) (mu : Mut (H x)) (he : e = x ∨ H e = some (.own x)) (k : ∀ b u, b ≠ e → s.heap.get? b = some u → h'.get? b = some u) (heo : ∃ u, h'.get? e = some u)
    (new : ObjOk X.prog X.w (upd H x o) h' x o) : Inv X pins σ (upd H x o) { s with heap := h', toks := t' } := I.un (Un.write mu he k heo) (I.hok.write mu he k heo new)
theorem Inv.weak {σ' : List (Option V)} (I : Inv X pins σ H s) (hl : σ'.length = σ.length) (w : ∀ (i : Nat) v, σ'[i]? = some (some v) → σ[i]? = some (some v)) : Inv X pins σ' H s :=
  ⟨I.ok, I.os, I.bare, I.base, let ⟨m, hn, hl'⟩ := I.loc; ⟨m, hn, fun i x v e1 e2 e3 => hl' i x v e1 (w i v e2) e3⟩, I.cell, I.free, I.freeC, I.pin, I.hok, hl.trans I.len⟩
theorem Inv.pins_of {pins' : List (Addr × Obj)} (I : Inv X pins σ H s) (h : ∀ p ∈ pins', s.heap.get? p.1 = some p.2 ∧ H p.1 = none ∧ p.1 ≠ X.env.locals ∧ p.1 ∉ X.fs ∧ ∀ v, p.2.data ≠ .cell v) : Inv X pins' σ H s :=
  ⟨I.ok, I.os, I.bare, I.base, I.loc, I.cell, I.free, I.freeC, fun p hp => (List.mem_append.mp hp).elim (fun z => I.pin p (List.mem_append_left _ z)) (h p), I.hok, I.len⟩
theorem nodup_ix {N : List Str} (hN : N.Nodup) {i j : Nat} {x : Str} (a : N[i]? = some x) (b : N[j]? = some x) : i = j := by
  obtain ⟨h1, e1⟩ := List.getElem?_eq_some_iff.mp a
  obtain ⟨h2, e2⟩ := List.getElem?_eq_some_iff.mp b
  exact (List.getElem_inj hN).mp (e1.trans e2.symm)
theorem store_ok2 {M : Model} {A : Around} {E : Value → Shared → Prop} {i : Nat} {x : Str} {v : V} {u : Value} {Q : Unit → Shared → Prop} (I : Inv X pins σ H s) (hN : X.N.Nodup) (hi : X.N[i]? = some x) (hx : Loc X.env.scope x) (r : RelV v u)
    (h : ∀ s', Inv X pins (σ.set i (some v)) H s' → (∃ a, Heap.SameBut a s.heap s'.heap ∧ (a = X.env.locals ∨ X.env.cells.lookup x = some a)) → Q () s') (hf : X.fn x = true ∨ X.env.scope.names.lookup x = some .local := by first | exact .inl rfl | exact .inr rfl | assumption) : wpAny M A (storeName X.env x u) Q E s := by
  obtain ⟨m, hn, hl⟩ := id I.loc
  have hcls : (X.env.scope.kind == .class || (X.env.scope.kind == .module && X.env.locals != X.env.globals)) = false := by rw [I.ok.kind]; rfl
  have hiσ : i < σ.length := by rw [I.len]; exact (List.getElem?_eq_some_iff.mp hi).1
  have cne := I.cne
  have tracked : ∀ {a : Addr} {h' : Heap}, (∃ o, s.heap.get? a = some o ∧ H a = none) → Heap.SameBut a s.heap h' → HOk X.prog X.w H h' := fun {a h'} ha hs b ob e => by
    obtain ⟨_, _, hfree⟩ := ha
    refine (I.hok b ob e).stay (fun c w' hc q => (hs.2 c ?_).trans q) (fun _ q => q) fun _ _ q => q
    rintro rfl
    rcases hc with rfl | hc
    · rw [hfree] at e; cases e
    · rw [hfree] at hc; cases hc
  rcases hx with hk | hk
  · refine wpAny_storeName_local hk hn (fun h' hn' hs => ?_) hcls
    obtain ⟨oL, _, _, hoL, _⟩ := id hn
    refine h _ ⟨I.ok, I.os, I.bare, ⟨fun b o e n hb hx => ?_, fun b o e n hb hx => ?_, I.base.free, fun b o e hx => ?_, I.base.tups, I.base.frzs, I.base.tbls⟩, ⟨_, hn', fun j y v' e1 e2 e3 => ?_⟩, fun y c e => ?_, I.free, I.freeC, fun p hp => ?_, tracked ⟨oL, hoL, I.free⟩ hs, by simpa using I.len⟩ ⟨_, hs, .inl rfl⟩
    · exact (hs.2 b (Nat.ne_of_lt (Nat.lt_of_lt_of_le (Heap.lt_size e) I.ok.above))).trans (I.base.keep b o e n hb hx)
    · obtain ⟨sl, e1⟩ := I.base.slot b o e n hb hx
      exact ⟨sl, (hs.2 b (Nat.ne_of_lt (Nat.lt_of_lt_of_le (Heap.lt_size e) I.ok.above))).trans e1⟩
    · obtain ⟨o', e1⟩ := I.base.there b o e hx
      exact ⟨o', (hs.2 b (Nat.ne_of_lt (Nat.lt_of_lt_of_le (Heap.lt_size e) I.ok.above))).trans e1⟩
    · by_cases hj : j = i
      · subst hj
        rw [hi] at e1; cases e1
        rw [List.getElem?_set_self hiσ] at e2
        cases e2
        exact ⟨u, r, .inl ⟨hk, by simp⟩⟩
      · rw [List.getElem?_set_ne (Ne.symm hj)] at e2
        obtain ⟨u', r', q⟩ := hl j y v' e1 e2 e3
        refine ⟨u', r', ?_⟩
        rcases q with ⟨k, e⟩ | ⟨k, c, e, z⟩
        · refine .inl ⟨k, ?_⟩
          have : y ≠ x := fun e => hj (nodup_ix hN e1 (e ▸ hi))
          simp [this, e]
        · exact .inr ⟨k, c, e, z.sameBut hs (cne y c e)⟩
    · obtain ⟨w', z⟩ := I.cell y c e
      exact ⟨w', z.sameBut hs (cne y c e)⟩
    · obtain ⟨e, n, ne, nf, d⟩ := I.pin p hp
      exact ⟨(hs.2 p.1 ne).trans e, n, ne, nf, d⟩
  · have hfn : X.fn x = true := by
      rcases hf with z | z
      · exact z
      · rw [z] at hk; cases hk
    obtain ⟨c, hc⟩ := I.ok.has x (.inl hk)
    obtain ⟨w', z⟩ := I.cell x c hc
    refine wpAny_storeName_cell I.ok.kind hk hc z (fun h' hc' hs => ?_)
    obtain ⟨oc, hoc, hocd⟩ := id z
    refine h { s with heap := h' } ⟨I.ok, I.os, I.bare, ⟨fun b o e n hb hx => ?_, fun b o e n hb hx => ?_, I.base.free, fun b o e hx => ?_, I.base.tups, I.base.frzs, I.base.tbls⟩, ⟨m, hn.sameBut hs (Ne.symm (cne x c hc)), fun j y v' e1 e2 e3 => ?_⟩, fun y c' e => ?_, I.free, I.freeC, fun p hp => ?_, tracked ⟨oc, hoc, I.freeC x c hc⟩ hs, by simpa using I.len⟩ ⟨c, hs, .inr hc⟩
    · exact (hs.2 b (Nat.ne_of_lt (Nat.lt_of_lt_of_le (Heap.lt_size e) (I.ok.cab x c hfn hc)))).trans (I.base.keep b o e n hb hx)
    · obtain ⟨sl, e1⟩ := I.base.slot b o e n hb hx
      exact ⟨sl, (hs.2 b (Nat.ne_of_lt (Nat.lt_of_lt_of_le (Heap.lt_size e) (I.ok.cab x c hfn hc)))).trans e1⟩
    · obtain ⟨o', e1⟩ := I.base.there b o e hx
      exact ⟨o', (hs.2 b (Nat.ne_of_lt (Nat.lt_of_lt_of_le (Heap.lt_size e) (I.ok.cab x c hfn hc)))).trans e1⟩
    · by_cases hj : j = i
      · subst hj
        rw [hi] at e1; cases e1
        rw [List.getElem?_set_self hiσ] at e2
        cases e2
        exact ⟨u, r, .inr ⟨.inl hk, c, hc, hc'⟩⟩
      · rw [List.getElem?_set_ne (Ne.symm hj)] at e2
        obtain ⟨u', r', q⟩ := hl j y v' e1 e2 e3
        refine ⟨u', r', ?_⟩
        rcases q with q | ⟨k, c', e, z'⟩
        · exact .inl q
        · refine .inr ⟨k, c', e, z'.sameBut hs ?_⟩
          rintro rfl
          exact hj (nodup_ix hN e1 (I.ok.inj _ _ _ e hc ▸ hi))
    · by_cases hcc : c' = c
      · subst hcc; exact ⟨_, hc'⟩
      · obtain ⟨w2, z2⟩ := I.cell y c' e
        exact ⟨w2, z2.sameBut hs hcc⟩
    · obtain ⟨e, n, ne, nf, d⟩ := I.pin p hp
      refine ⟨(hs.2 p.1 ?_).trans e, n, ne, nf, d⟩
      intro q
      rw [q, hoc] at e
      have q' : oc = p.2 := Option.some.inj e
      exact d w' (by rw [← q']; exact hocd)
theorem store_ok {M : Model} {A : Around} {E : Value → Shared → Prop} {i : Nat} {x : Str} {v : V} {u : Value} {Q : Unit → Shared → Prop} (I : Inv X pins σ H s) (hN : X.N.Nodup) (hi : X.N[i]? = some x) (hx : Loc X.env.scope x) (r : RelV v u)
    (h : ∀ s', Inv X pins (σ.set i (some v)) H s' → Q () s') (hf : X.fn x = true ∨ X.env.scope.names.lookup x = some .local := by first | exact .inl rfl | exact .inr rfl | assumption) : wpAny M A (storeName X.env x u) Q E s :=
  store_ok2 I hN hi hx r (fun s' I' _ => h s' I') hf
theorem Inv.call' {s' : Shared} {ch : List Addr} (I : Inv X pins σ H s) (ho : s'.os = s.os) (u : Un (frs X.stack) ch H H' s.heap s'.heap) (hok : HOk X.prog X.w H' s'.heap) (hg : AllBare s'.gens)
    (hch : ∀ b ∈ ch, (b ∈ X.ex ∨ X.s₀.heap.objs.size ≤ b) ∧ b ≠ X.env.locals ∧ (∀ x c, X.env.cells.lookup x = some c → c ≠ b) ∧ ∀ p ∈ X.pn ++ pins, p.1 ≠ b) : Inv X pins σ H' s' := by
  obtain ⟨h', g', d', t', o'⟩ := s'
  have e : o' = s.os := ho
  subst e
  exact I.call (g' := g') (t' := t') (d' := d') u hok hg hch
end
abbrev XK := Value → Option Addr → Hp → Prop
abbrev St := List (Option V)
abbrev VK := V → Hp → Prop
abbrev TE := St → Hp → VK → Prop
abbrev TT := St → Hp → (Bool → Hp → Prop) → Prop
abbrev TA := St → Hp → (List V → Hp → Prop) → Prop
structure Ends where
  nx : St → Hp → Prop
  rt : VK
  bk : St → Hp → Prop := fun _ _ => False
  ct : St → Hp → Prop := fun _ _ => False
abbrev TS := Ends → St → Hp → Prop
def EP (X : Cx) (pins : List (Addr × Obj)) (σ : St) (Q : VK) (u : Value) (s' : Shared) : Prop := ∃ v H', Inv X pins σ H' s' ∧ RelV v u ∧ Q v H'
def TP (X : Cx) (pins : List (Addr × Obj)) (σ : St) (Q : Bool → Hp → Prop) (b : Bool) (s' : Shared) : Prop := ∃ H', Inv X pins σ H' s' ∧ Q b H'
def AP (X : Cx) (pins : List (Addr × Obj)) (σ : St) (Q : List V → Hp → Prop) (us : List Value) (s' : Shared) : Prop := ∃ vs H', Inv X pins σ H' s' ∧ Vals vs us ∧ Q vs H'
def SP (X : Cx) (pins : List (Addr × Obj)) (D : Ends) (f : Flow) (s' : Shared) : Prop :=
  match f with
  | .next => ∃ σ' H', Inv X pins σ' H' s' ∧ D.nx σ' H'
  | .brk => ∃ σ' H', Inv X pins σ' H' s' ∧ D.bk σ' H'
  | .cont => ∃ σ' H', Inv X pins σ' H' s' ∧ D.ct σ' H'
  | .ret u => ∃ v σ' H', Inv X pins σ' H' s' ∧ RelV v u ∧ D.rt v H'
def PE (X : Cx) (e : Expr) (t : TE) : Prop :=
  ∀ (pins : List (Addr × Obj)) (s : Shared) (σ : St) (H : Hp) (Q : VK), Inv X pins σ H s → t σ H Q → wpAny (model X.prog X.w) X.A (eval e X.env) (EP X pins σ Q) X.xe s
def PT (X : Cx) (e : Expr) (t : TT) : Prop :=
  ∀ (pins : List (Addr × Obj)) (s : Shared) (σ : St) (H : Hp) (Q : Bool → Hp → Prop), Inv X pins σ H s → t σ H Q → wpAny (model X.prog X.w) X.A (isTrue e X.env (eval e X.env)) (TP X pins σ Q) X.xe s
def PW (X : Cx) (e : Expr) (t : TT) : Prop :=
  ∀ (whole : Sem Value) (pins : List (Addr × Obj)) (s : Shared) (σ : St) (H : Hp) (Q : Bool → Hp → Prop), Inv X pins σ H s → t σ H Q → wpAny (model X.prog X.w) X.A (isTrue e X.env whole) (TP X pins σ Q) X.xe s
theorem PW.pt {X : Cx} {e : Expr} {t : TT} (h : PW X e t) : PT X e t := h _
def PA (X : Cx) (es : List Expr) (t : TA) : Prop :=
  ∀ (pos : Pos) (pins : List (Addr × Obj)) (s : Shared) (σ : St) (H : Hp) (Q : List V → Hp → Prop), Inv X pins σ H s → t σ H Q → wpAny (model X.prog X.w) X.A (spliced (backTo pos (starEach es X.env))) (AP X pins σ Q) X.xe s
def PS (X : Cx) (st : Stmt) (t : TS) : Prop :=
  ∀ (pins : List (Addr × Obj)) (s : Shared) (σ : St) (H : Hp) (D : Ends), Inv X pins σ H s → t D σ H → wpAny (model X.prog X.w) X.A (exec st X.env) (SP X pins D) X.xe s
def PSs (X : Cx) (st : List Stmt) (t : TS) : Prop :=
  ∀ (pins : List (Addr × Obj)) (s : Shared) (σ : St) (H : Hp) (D : Ends), Inv X pins σ H s → t D σ H → wpAny (model X.prog X.w) X.A (execs st X.env) (SP X pins D) X.xe s
theorem thn {α : Type} {t : Sem α} {Q Q' : α → Shared → Prop} {M : Model} {A : Around} {E : Value → Shared → Prop} {s : Shared} (h : wpAny M A t Q E s) (hQ : ∀ a s, Q a s → Q' a s) : wpAny M A t Q' E s := wpAny_mono h hQ fun _ _ x => x
end L2
namespace L2
open PySem PySem.Spec PyProof.Rows
section
variable {X : Cx}
def tVar (i : Nat) : TE := fun σ H Q => ∃ v, σ[i]? = some (some v) ∧ Q v H
def tC (v : V) : TE := fun _ H Q => Q v H
theorem pe_var {i : Nat} {x : Str} {pos : Pos} (hN : X.N[i]? = some x) (hv : Vis X.env.scope x) (hd : (x == ("__debug__" : Str)) = false := by decide) (hcd : (x == ("__classdict__" : Str)) = false := by decide) : PE X (.Name x pos) (tVar i) := by
  intro pins s σ H Q I h
  obtain ⟨v, e, h⟩ := h
  obtain ⟨m, hn, hl⟩ := I.loc
  obtain ⟨u, r, l⟩ := hl i x v hN e hv
  have fin : EP X pins σ Q u s := ⟨v, H, I, r, h⟩
  rcases l with ⟨hk, hm⟩ | ⟨hk, c, hc, hcell⟩
  · exact wpAny_Name (wpAny_loadName_local I.ok.kind hk hn hm fin) hd
  · rcases hk with hk | hk
    · exact wpAny_Name (wpAny_loadName_cell I.ok.kind hk hc hcell fin) hd
    · exact wpAny_Name (wpAny_loadName_free I.ok.kind hk hc hcell fin hcd) hd
theorem pe_int {i j pos} : PE X (.Constant (.int i) j pos) (tC (.int i)) := fun _ _ _ H _ I h => wpAny_Constant_int ⟨.int i, H, I.tok _, ⟨_, rfl⟩, h⟩
theorem pe_bl {b j pos} : PE X (.Constant (.bool b) j pos) (tC (.bl b)) := fun _ _ _ H _ I h => Constant_bool ⟨.bl b, H, I, rfl, h⟩
theorem pe_non {j pos} : PE X (.Constant .none j pos) (tC .non) := fun _ _ _ H _ I h => Constant_none ⟨.non, H, I, rfl, h⟩
theorem pe_str {x j pos} : PE X (.Constant (.str x) j pos) (tC (.str x)) := fun _ _ _ H _ I h => Calls.Constant_str ⟨.str x, H, I.tok _, ⟨_, rfl⟩, h⟩
def Gl (X : Cx) (x : Str) : Prop := X.env.kindOf x = some .globalImplicit
theorem ld_glob {E : Value → Shared → Prop} {pins : List (Addr × Obj)} {s : Shared} {σ : St} {H : Hp} {x : Str} {u : Value} {pos : Pos} {Q : Value → Shared → Prop} (I : Inv X pins σ H s) (hg : Gl X x) (hm : X.mg x = some u) (h : Q u s)
    (hd : (x == ("__debug__" : Str)) = false := by decide) : wpAny (model X.prog X.w) X.A (eval (.Name x pos) X.env) Q E s :=
  Calls.Name_function_global I.ok.kind hg (Calls.loadGlobal_global (by rw [I.ok.glob]; exact I.mod.glob.keeps I.bk) hm h) hd
theorem ld_blt {E : Value → Shared → Prop} {pins : List (Addr × Obj)} {s : Shared} {σ : St} {H : Hp} {x : Str} {u : Value} {pos : Pos} {Q : Value → Shared → Prop} (I : Inv X pins σ H s) (hg : Gl X x) (hm : X.mg x = none) (hv : bootBuiltins x = some u) (h : Q u s)
    (hn : x ≠ "__name__" := by decide) (hd : (x == ("__debug__" : Str)) = false := by decide) : wpAny (model X.prog X.w) X.A (eval (.Name x pos) X.env) Q E s := by
  obtain ⟨mb, h1, h2⟩ := I.mod.blt
  exact Calls.Name_function_global I.ok.kind hg (Calls.loadGlobal_builtin (by rw [I.ok.glob]; exact I.mod.glob.keeps I.bk) hm (by rw [I.ok.blt]; exact h1.keeps I.bk) ((h2 x hn).trans hv) h) hd
theorem pe_glob {x : Str} {v : V} {u : Value} {pos : Pos} (hg : Gl X x) (hm : X.mg x = some u) (r : RelV v u) (hd : (x == ("__debug__" : Str)) = false := by decide) : PE X (.Name x pos) (tC v) :=
  fun _ _ _ H _ I h => ld_glob I hg hm ⟨v, H, I, r, h⟩ hd
theorem pe_bltn {x : Str} {v : V} {u : Value} {pos : Pos} (hg : Gl X x) (hm : X.mg x = none) (hv : bootBuiltins x = some u) (r : RelV v u) (hn : x ≠ "__name__" := by decide) (hd : (x == ("__debug__" : Str)) = false := by decide) : PE X (.Name x pos) (tC v) :=
  fun _ _ _ H _ I h => ld_blt I hg hm hv ⟨v, H, I, r, h⟩ hn hd
variable {a b : Expr} {ta tb : TE} {pos : Pos}
def tB (t : TE) : TT := fun σ H Q => t σ H fun x H1 => ∃ c, x = .bl c ∧ Q c H1
theorem pt_val {e : Expr} {t : TE} (h : PE X e t) (he : ∀ whole, isTrue e X.env whole = (do let v ← whole; standAt e.pos; holding [v] (truthy v)) := by intro _; rfl) : PT X e (tB t) := by
  intro pins s σ H Q I hw
  refine isTrue_plain (thn (h pins s σ H _ I hw) fun v s1 ⟨x, H1, I1, r1, q1⟩ => ?_) (he _)
  obtain ⟨d, rfl, q⟩ := q1
  cases r1
  exact wpAny_truthy_bool ⟨H1, I1, q⟩
variable {tA tB' : TT} {rest : List Expr}
def tAnd (t u : TT) : TT := fun σ H Q => t σ H fun c H1 => if c = true then u σ H1 Q else Q false H1
def tOr (t u : TT) : TT := fun σ H Q => t σ H fun c H1 => if c = true then Q true H1 else u σ H1 Q
def tNot (t : TT) : TT := fun σ H Q => t σ H fun c H1 => Q (!c) H1
theorem pw_and1 (ha : PT X a tA) : PW X (.BoolOp .And [a] pos) tA := by
  intro wh pins s σ H Q I h
  refine isTrue_and (thn (ha pins s σ H Q I h) fun c s1 e => ?_)
  cases c with
  | true => exact isTrue_and_nil e
  | false => exact e
theorem pw_or1 (ha : PT X a tA) : PW X (.BoolOp .Or [a] pos) tA := by
  intro wh pins s σ H Q I h
  refine isTrue_or (thn (ha pins s σ H Q I h) fun c s1 e => ?_)
  cases c with
  | false => exact isTrue_or_nil e
  | true => exact e
theorem pw_and (ha : PT X a tA) (hb : PW X (.BoolOp .And (b :: rest) pos) tB') : PW X (.BoolOp .And (a :: b :: rest) pos) (tAnd tA tB') := by
  intro wh pins s σ H Q I h
  refine isTrue_and (thn (ha pins s σ H _ I h) fun c s1 ⟨H1, I1, q1⟩ => ?_)
  cases c with
  | true => exact hb wh pins s1 σ H1 Q I1 q1
  | false => exact ⟨H1, I1, q1⟩
theorem pw_or (ha : PT X a tA) (hb : PW X (.BoolOp .Or (b :: rest) pos) tB') : PW X (.BoolOp .Or (a :: b :: rest) pos) (tOr tA tB') := by
  intro wh pins s σ H Q I h
  refine isTrue_or (thn (ha pins s σ H _ I h) fun c s1 ⟨H1, I1, q1⟩ => ?_)
  cases c with
  | true => exact ⟨H1, I1, q1⟩
  | false => exact hb wh pins s1 σ H1 Q I1 q1
theorem pt_not (ha : PT X a tA) : PT X (.UnaryOp .Not a pos) (tNot tA) := by
  intro pins s σ H Q I h
  exact isTrue_not (ha pins s σ H (fun c H1 => Q (!c) H1) I h)
def tAndV (ta tb : TE) : TE := fun σ H Q => ta σ H fun x H1 => ∃ c, x = .bl c ∧ if c = true then tb σ H1 Q else Q (.bl false) H1
def tNotV (ta : TE) : TE := fun σ H Q => ta σ H fun x H1 => ∃ c, x = .bl c ∧ Q (.bl (!c)) H1
theorem pe_one {op} {t : TE} (h : PE X a t) : PE X (.BoolOp op [a] pos) t := fun pins s σ H Q I hw => BoolOp_one (h pins s σ H Q I hw)
theorem pe_and (ha : PE X a ta) (hb : PE X (.BoolOp .And (b :: rest) pos) tb) : PE X (.BoolOp .And (a :: b :: rest) pos) (tAndV ta tb) := by
  intro pins s σ H Q I h
  refine BoolOp_and (thn (ha pins s σ H _ I h) fun v s1 ⟨x, H1, I1, r1, q1⟩ => ?_)
  obtain ⟨c, rfl, q1⟩ := q1
  cases r1
  refine wpAny_truthy_bool ?_
  cases c with
  | true => exact hb pins s1 σ H1 Q I1 q1
  | false => exact ⟨.bl false, H1, I1, rfl, q1⟩
theorem pe_not (ha : PE X a ta) : PE X (.UnaryOp .Not a pos) (tNotV ta) := by
  intro pins s σ H Q I h
  refine UnaryOp_ (thn (ha pins s σ H _ I h) fun v s1 ⟨x, H1, I1, r1, q1⟩ => ?_)
  obtain ⟨c, rfl, q1⟩ := q1
  cases r1
  exact not_of (wpAny_truthy_bool ⟨.bl (!c), H1, I1, rfl, q1⟩)
def tIf (t : TT) (ta tb : TE) : TE := fun σ H Q => t σ H fun c H1 => if c = true then ta σ H1 Q else tb σ H1 Q
theorem pe_ifExp {c : Expr} (hc : PT X c tA) (ha : PE X a ta) (hb : PE X b tb) : PE X (.IfExp c a b pos) (tIf tA ta tb) := by
  intro pins s σ H Q I h
  refine wpAny_IfExp (thn (hc pins s σ H _ I h) fun d s1 ⟨H1, I1, q1⟩ => ?_)
  cases d with
  | true => exact ha pins s1 σ H1 Q I1 q1
  | false => exact hb pins s1 σ H1 Q I1 q1
end
end L2
namespace L2
open PySem PySem.Spec PyProof.Rows
def SqL (K : PySem.W.Frag) (H : Hp) (a : Addr) (xs : List V) : Prop :=
  Rd H a (.lst xs) ∨
    ∃ (o : Obj) (its : Array Value) (n : Nat), K.lookup a = some o ∧ o.cls = .type "list" ∧ o.dict = none ∧ o.data = .seq its n ∧ its.size ≤ sizeLine ∧ Vals xs its.toList
def SqT (K : PySem.W.Frag) (H : Hp) (a : Addr) (xs : List V) : Prop :=
  Rd H a (.tup xs) ∨
    ∃ (o : Obj) (its : Array Value) (n : Nat), K.lookup a = some o ∧ o.cls = .type "tuple" ∧ o.data = .seq its n ∧ its.size ≤ sizeLine ∧ Vals xs its.toList
def absV : Value → Option V
  | .none => some .non
  | .bool b => some (.bl b)
  | .int i _ => some (.int i)
  | .str x _ => some (.str x)
  | .bytes b _ => some (.byt b)
  | .float b _ => some (.flt b)
  | .ref a => some (.ref a)
  | .type n => some (.ty n)
  | _ => none
theorem RelV.abs {x : V} {u : Value} (r : RelV x u) : absV u = some x := by
  cases x with
  | non => cases r; rfl
  | bl _ => cases r; rfl
  | int _ => obtain ⟨t, rfl⟩ := r; rfl
  | str _ => obtain ⟨t, rfl⟩ := r; rfl
  | byt _ => obtain ⟨t, rfl⟩ := r; rfl
  | flt _ => obtain ⟨t, rfl⟩ := r; rfl
  | ref _ => cases r; rfl
  | ty _ => cases r; rfl
theorem RelV.inj {x y : V} {u : Value} (r : RelV x u) (q : RelV y u) : x = y := Option.some.inj (r.abs.symm.trans q.abs)
theorem Vals.inj : ∀ {xs ys : List V} {us : List Value}, Vals xs us → Vals ys us → xs = ys
  | _, _, _, .nil, .nil => rfl
  | _, _, _, .cons r t, .cons r' t' => by rw [r.inj r', Vals.inj t t']
section
variable {X : Cx} {pins : List (Addr × Obj)} {σ : St} {H : Hp} {s : Shared} {a : Addr} {xs ys : List V}
theorem SqL.of {K : PySem.W.Frag} (h : H a = some (.lst xs)) : SqL K H a xs := .inl (.inl h)
theorem SqT.of {K : PySem.W.Frag} (h : H a = some (.tup xs)) : SqT K H a xs := .inl (.inl h)
theorem Inv.list (I : Inv X pins σ H s) (h : SqL X.K H a xs) : ∃ its : List Value, Vals xs its ∧ PlainL s.heap a its.toArray ∧ xs.length ≤ sizeLine := by
  rcases h with h | ⟨o, its, n, hk, hc, hd, hs, hz, r⟩
  · obtain ⟨z, its, n, r, e⟩ := h.ok I.hok
    exact ⟨its, r, ⟨_, n, e, rfl, rfl, rfl⟩, z⟩
  · refine ⟨its.toList, r, ⟨o, n, I.kIn a o hk, hc, hd, by simpa using hs⟩, ?_⟩
    have e := r.length
    simp only [Array.length_toList] at e
    omega
theorem Inv.tuple (I : Inv X pins σ H s) (h : SqT X.K H a xs) : ∃ its : List Value, Vals xs its ∧ IsTup s.heap a its.toArray ∧ xs.length ≤ sizeLine := by
  rcases h with h | ⟨o, its, n, hk, hc, hs, hz, r⟩
  · obtain ⟨z, its, r, p⟩ := h.ok I.hok
    exact ⟨its, r, p, z⟩
  · refine ⟨its.toList, r, ⟨o, I.kIn a o hk, hc, n, by simpa using hs⟩, ?_⟩
    have e := r.length
    simp only [Array.length_toList] at e
    omega
theorem Inv.list_inj (I : Inv X pins σ H s) (h : SqL X.K H a xs) (h' : SqL X.K H a ys) : xs = ys := by
  obtain ⟨its, r, ⟨o, n, e, _, _, d⟩, _⟩ := I.list h
  obtain ⟨its', r', ⟨o', n', e', _, _, d'⟩, _⟩ := I.list h'
  rw [e] at e'; cases e'
  rw [d] at d'
  injection d' with d1 _
  have : its = its' := by simpa using congrArg Array.toList d1
  subst this
  exact r.inj r'
theorem Inv.tuple_inj (I : Inv X pins σ H s) (h : SqT X.K H a xs) (h' : SqT X.K H a ys) : xs = ys := by
  obtain ⟨its, r, ⟨o, e, _, n, d⟩, _⟩ := I.tuple h
  obtain ⟨its', r', ⟨o', e', _, n', d'⟩, _⟩ := I.tuple h'
  rw [e] at e'; cases e'
  rw [d] at d'
  injection d' with d1 _
  have : its = its' := by simpa using congrArg Array.toList d1
  subst this
  exact r.inj r'
end
abbrev Cx.wish (X : Cx) (E : Value → Shared → Prop) : Cx := { X with xe := E }
abbrev Cx.nox (X : Cx) : Cx := X.wish fun _ _ => False
theorem Cx.Ok.wish {X : Cx} (ok : X.Ok) (E : Value → Shared → Prop) : (X.wish E).Ok :=
  ⟨ok.mod, ok.kind, ok.glob, ok.blt, ok.above, ok.inj, ok.has, ok.cab, ok.hd, ok.frames, ok.stk, ok.exf, ok.bs, ok.bsz, ok.noex, ok.exfs, ok.funs, ok.frf⟩
theorem Cx.Ok.unwish {X : Cx} {E : Value → Shared → Prop} (ok : (X.wish E).Ok) : X.Ok :=
  ⟨ok.mod, ok.kind, ok.glob, ok.blt, ok.above, ok.inj, ok.has, ok.cab, ok.hd, ok.frames, ok.stk, ok.exf, ok.bs, ok.bsz, ok.noex, ok.exfs, ok.funs, ok.frf⟩
section
variable {X : Cx} {pins : List (Addr × Obj)} {σ : St} {H : Hp} {s : Shared} {E : Value → Shared → Prop}
theorem Inv.wish (I : Inv X pins σ H s) (E : Value → Shared → Prop) : Inv (X.wish E) pins σ H s := ⟨I.ok.wish E, I.os, I.bare, I.base, I.loc, I.cell, I.free, I.freeC, I.pin, I.hok, I.len⟩
theorem Inv.unwish (I : Inv (X.wish E) pins σ H s) : Inv X pins σ H s := ⟨I.ok.unwish, I.os, I.bare, I.base, I.loc, I.cell, I.free, I.freeC, I.pin, I.hok, I.len⟩
theorem SP.unwish {D : Ends} {f : Flow} {s' : Shared} (h : SP (X.wish E) pins D f s') : SP X pins D f s' := by
  cases f with
  | next => obtain ⟨σ', H', I, q⟩ := h; exact ⟨σ', H', I.unwish, q⟩
  | brk => obtain ⟨σ', H', I, q⟩ := h; exact ⟨σ', H', I.unwish, q⟩
  | cont => obtain ⟨σ', H', I, q⟩ := h; exact ⟨σ', H', I.unwish, q⟩
  | ret u => obtain ⟨v, σ', H', I, r, q⟩ := h; exact ⟨v, σ', H', I.unwish, r, q⟩
theorem PE.nox {e : Expr} {t : TE} (h : PE X.nox e t) : PE X e t := fun pins s σ H Q I hw =>
  wpAny_mono (h pins s σ H Q (I.wish _) hw) (fun _ _ ⟨v, H', I', r, q⟩ => ⟨v, H', I'.unwish, r, q⟩) fun _ _ z => False.elim z
theorem PT.nox {e : Expr} {t : TT} (h : PT X.nox e t) : PT X e t := fun pins s σ H Q I hw =>
  wpAny_mono (h pins s σ H Q (I.wish _) hw) (fun _ _ ⟨H', I', q⟩ => ⟨H', I'.unwish, q⟩) fun _ _ z => False.elim z
theorem PSs.nox {st : List Stmt} {t : TS} (h : PSs X.nox st t) : PSs X st t := fun pins s σ H D I hw =>
  wpAny_mono (h pins s σ H D (I.wish _) hw) (fun _ _ q => q.unwish) fun _ _ z => False.elim z
end
section
variable {X : Cx} {st : Stmt} {rest : List Stmt} {t u : TS} {e : Expr} {te : TE} {pos : Pos}
def tNext : TS := fun D σ H => D.nx σ H
def tSeq (t u : TS) : TS := fun D σ H => t { D with nx := u D } σ H
theorem pss_nil : PSs X [] tNext := fun _ _ σ H _ I h => wpAny_execs_nil ⟨σ, H, I, h⟩
theorem pss_cons (h1 : PS X st t) (h2 : PSs X rest u) : PSs X (st :: rest) (tSeq t u) := by
  intro pins s σ H D I h
  refine wpAny_execs_cons (thn (h1 pins s σ H { D with nx := u D } I h) fun f s1 q => ?_)
  cases f with
  | next =>
    obtain ⟨σ', H', I', q⟩ := q
    exact h2 pins s1 σ' H' D I' q
  | ret v => exact q
  | brk => exact q
  | cont => exact q
theorem pss_one (h1 : PS X st t) : PSs X [st] t := by
  intro pins s σ H D I h
  refine wpAny_execs_cons (thn (h1 pins s σ H D I h) fun f s1 q => ?_)
  cases f with
  | next => exact wpAny_execs_nil q
  | ret v => exact q
  | brk => exact q
  | cont => exact q
theorem Inv.quiet {pins : List (Addr × Obj)} {σ : St} {H : Hp} {s : Shared} (I : Inv X pins σ H s) : interactive X.env = false := by simp [interactive, I.ok.kind]
def tDrop (te : TE) : TS := fun D σ H => te σ H fun _ H1 => D.nx σ H1
theorem ps_expr (he : PE X e te) (hs : swapsWith e none pos.line X.env = pure false := by rfl) : PS X (.Expr e pos) (tDrop te) := by
  intro pins s σ H D I h
  exact wpAny_Expr_any (thn (he pins s σ H _ I h) fun v s1 ⟨x, H1, I1, r1, q1⟩ => ⟨σ, H1, I1, q1⟩) I.quiet hs
def tRet (te : TE) : TS := fun D σ H => te σ H D.rt
theorem ps_ret (he : PE X e te) : PS X (.Return (some e) pos) (tRet te) := by
  intro pins s σ H D I h
  exact wpAny_Return_some (thn (he pins s σ H _ I h) fun v s1 ⟨x, H1, I1, r1, q1⟩ => ⟨x, σ, H1, I1, r1, q1⟩)
def tIfS (c : TT) (t u : TS) : TS := fun D σ H => c σ H fun b H1 => if b = true then t D σ H1 else u D σ H1
theorem ps_if {c : Expr} {a b : List Stmt} {tc : TT} (hc : PT X c tc) (ha : PSs X a t) (hb : PSs X b u) : PS X (.If c a b pos) (tIfS tc t u) := by
  intro pins s σ H D I h
  refine wpAny_If (thn (hc pins s σ H _ I h) fun d s1 ⟨H1, I1, q1⟩ => ?_)
  cases d with
  | true => exact ha pins s1 σ H1 D I1 q1
  | false => exact hb pins s1 σ H1 D I1 q1
def tNever : TS := fun _ _ _ => False
theorem pss_never {sts : List Stmt} : PSs X sts tNever := fun _ _ _ _ _ _ h => h.elim
end
abbrev TG := V → St → Hp → (St → Hp → Prop) → Prop
abbrev TGs := List V → St → Hp → (St → Hp → Prop) → Prop
def PG (X : Cx) (target : Expr) (t : TG) : Prop :=
  ∀ (pins : List (Addr × Obj)) (s : Shared) (σ : St) (H : Hp) (v : V) (u : Value) (Q : St → Hp → Prop), Inv X pins σ H s → RelV v u → t v σ H Q →
    wpAny (model X.prog X.w) X.A (assign target X.env u) (fun _ s' => ∃ σ' H', Inv X pins σ' H' s' ∧ Q σ' H') X.xe s
def PGs (X : Cx) (ts : List Expr) (t : TGs) : Prop :=
  ∀ (pins : List (Addr × Obj)) (s : Shared) (σ : St) (H : Hp) (vs : List V) (us : List Value) (Q : St → Hp → Prop), Inv X pins σ H s → Vals vs us → t vs σ H Q →
    wpAny (model X.prog X.w) X.A (assignInOrder ((assignEach ts X.env).map (·.2)) us) (fun _ s' => ∃ σ' H', Inv X pins σ' H' s' ∧ Q σ' H') X.xe s
section
variable {X : Cx} {pos : Pos}
def gName (i : Nat) : TG := fun v σ H Q => Q (σ.set i (some v)) H
theorem pg_name {i : Nat} {x : Str} (hN : X.N.Nodup) (hi : X.N[i]? = some x) (hx : Loc X.env.scope x) (hf : X.fn x = true ∨ X.env.scope.names.lookup x = some .local := by first | exact .inl rfl | exact .inr rfl | assumption) : PG X (.Name x pos) (gName i) := by
  intro pins s σ H v u Q I r h
  exact wpAny_assign_Name (store_ok I hN hi hx r (fun s' I' => ⟨_, H, I', h⟩) hf)
def gNil : TGs := fun vs σ H Q => vs = [] ∧ Q σ H
def gCons (t : TG) (u : TGs) : TGs := fun vs σ H Q => ∃ v r, vs = v :: r ∧ t v σ H fun σ' H' => u r σ' H' Q
theorem pgs_nil : PGs X [] gNil := by
  intro pins s σ H vs us Q I r h
  obtain ⟨e, h⟩ := h
  subst e
  cases r
  exact assignInOrder_nil ⟨σ, H, I, h⟩
theorem pgs_cons {e : Expr} {es : List Expr} {t : TG} {u : TGs} (h1 : PG X e t) (h2 : PGs X es u)
    (hs : (assignEach (e :: es) X.env).map (·.2) = assign e X.env :: (assignEach es X.env).map (·.2) := by rfl) : PGs X (e :: es) (gCons t u) := by
  intro pins s σ H vs us Q I r h
  obtain ⟨v, vr, e1, h⟩ := h
  subst e1
  cases r with
  | cons r rr =>
    rw [hs]
    refine assignInOrder_cons (thn (h1 pins s σ H _ _ _ I r h) fun _ s1 ⟨σ1, H1, I1, q1⟩ => ?_)
    exact h2 pins s1 σ1 H1 _ _ Q I1 rr q1
def gTup (K : PySem.W.Frag) (n : Nat) (t : TGs) : TG := fun v σ H Q => ∃ a xs, v = .ref a ∧ SqT K H a xs ∧ xs.length = n ∧ t xs σ H Q
theorem pg_tup {es : List Expr} {k : Nat} {t : TGs} {n : Nat} (hc : X.calm = true) (h : PGs X es t)
    (hn : (assignEach es X.env).length = n := by rfl) (hst : (assignEach es X.env).findIdx? (·.1) = none := by rfl) : PG X (.Tuple es k pos) (gTup X.K n t) := by
  intro pins s σ H v u Q I r hw
  obtain ⟨a, xs, e1, hq, hl, hw⟩ := hw
  subst e1
  cases r
  obtain ⟨its, rv, ht, hz⟩ := I.tuple hq
  refine assign_Tuple_tuple (I.ok.hd hc) ht (by simp [hn, ← hl, rv.length]) hst fun h' hx => ?_
  have I1 : Inv X pins σ H { s with heap := h' } := I.kept (t' := s.toks) fun b o e => hx b o (Nat.ne_of_lt (Heap.lt_size e)) e
  exact h pins _ σ H xs _ Q I1 (by simpa using rv) hw
def tAsg (te : TE) (g : TG) : TS := fun D σ H => te σ H fun x H1 => g x σ H1 D.nx
theorem ps_asg {tg e : Expr} {te : TE} {g : TG} (he : PE X e te) (hg : PG X tg g) (hs : swapsWithSole [tg] e pos.line X.env = pure false := by rfl) (hw : swappedStores [tg] e X.env = pure none := by rfl)
    (h1 : (assignEach [tg] X.env).map (·.2) = [assign tg X.env] := by rfl) : PS X (.Assign [tg] e pos) (tAsg te g) := by
  intro pins s σ H D I h
  refine wpAny_Assign_stores (thn (he pins s σ H _ I h) fun v s1 ⟨x, H1, I1, r1, q1⟩ => ?_) hs hw
  rw [h1]
  exact thn (hg pins s1 σ H1 x v _ I1 r1 q1) fun _ s2 q => q
theorem ps_set {i : Nat} {x : Str} {e : Expr} {te : TE} {pos' : Pos} (hN : X.N.Nodup) (hi : X.N[i]? = some x) (hx : Loc X.env.scope x) (he : PE X e te) (hs : swapsWith e (some (.Name x pos')) pos.line X.env = pure false := by rfl) (hf : X.fn x = true ∨ X.env.scope.names.lookup x = some .local := by first | exact .inl rfl | exact .inr rfl | assumption) :
    PS X (.Assign [.Name x pos'] e pos) (tAsg te (gName i)) := by
  intro pins s σ H D I h
  refine wpAny_Assign_Name (thn (he pins s σ H _ I h) fun v s1 ⟨y, H1, I1, r1, q1⟩ => ?_) hs
  exact store_ok I1 hN hi hx r1 (fun s2 I2 => ⟨_, H1, I2, q1⟩) hf
def tPar (i j : Nat) (ta : TA) : TS := fun D σ H => ta σ H fun vs H1 => ∃ v w, vs = [v, w] ∧ D.nx ((σ.set i (some v)).set j (some w)) H1
theorem ps_par {i j : Nat} {x y : Str} {a b : Expr} {ta : TA} {px py pt : Pos} {kt k2 pt2} (hc : X.calm = true) (hN : X.N.Nodup) (hi : X.N[i]? = some x) (hj : X.N[j]? = some y) (hij : i ≠ j)
    (hx : X.env.scope.names.lookup x = some .local) (hy : X.env.scope.names.lookup y = some .local) (ha : PA X [a, b] ta)
    (hw : swappedStores [.Tuple [.Name x px, .Name y py] kt pt] (.Tuple [a, b] k2 pt2) X.env = pure (some [x, y]))
    (hs : swapsWithSole [.Tuple [.Name x px, .Name y py] kt pt] (.Tuple [a, b] k2 pt2) pos.line X.env = pure false := by rfl) :
    PS X (.Assign [.Tuple [.Name x px, .Name y py] kt pt] (.Tuple [a, b] k2 pt2) pos) (tPar i j ta) := by
  intro pins s σ H D I h
  rw [exec_Assign_arm]
  refine wpAny_bind (wpAny_standAt ?_)
  rw [hs]
  refine wpAny_bind (wpAny_pure ?_)
  rw [if_neg (by decide)]
  refine wpAny_bind (Tuple_ (thn (ha _ pins s σ H _ I h) fun us s1 ⟨vs, H1, I1, r1, q1⟩ => ?_))
  obtain ⟨v, w, e1, q1⟩ := q1
  subst e1
  obtain ⟨u1, u2, rfl, rv, rw'⟩ : ∃ u1 u2, us = [u1, u2] ∧ RelV v u1 ∧ RelV w u2 := by
    cases r1 with
    | cons p q =>
      cases q with
      | cons p' q' =>
        cases q'
        exact ⟨_, _, rfl, p, p'⟩
  refine wpAny_newObj_type ?_ (by show 2 ≤ sizeLine; decide)
  have I2 : Inv X pins σ H1 { s1 with heap := s1.heap.push { cls := .type "tuple", data := .seq [u1, u2].toArray } } := I1.kept (t' := s1.toks) fun b o e => Heap.get?_push_of_some _ e
  rw [hw]
  refine wpAny_bind (wpAny_pure ?_)
  show wpAny (model X.prog X.w) X.A (do rule "assign.swapped-stores"; let items ← unpackItems (.ref s1.heap.objs.size) 2 none; assignInOrder [fun v => bindName X.env y v, fun v => bindName X.env x v] items.reverse; pure Flow.next) _ _ _
  refine wpAny_bind (wpAny_rule (wpAny_bind (unpackItems_tuple (items := #[u1, u2]) (I.ok.hd hc) (IsTup.new s1.heap _) fun h' hx' => ?_)))
  have I3 := I2.kept (h' := h') (t' := s1.toks) fun b o e => hx' b o (Nat.ne_of_lt (Heap.lt_size e)) e
  show wpAny _ _ (assignInOrder [fun v => bindName X.env y v, fun v => bindName X.env x v] [u2, u1] >>= fun _ => pure Flow.next) _ _ _
  refine wpAny_bind (assignInOrder_cons (wpAny_bindName (store_ok I3 hN hj (.inl hy) rw' (fun s2 I4 => ?_) (.inr hy))))
  refine assignInOrder_cons (wpAny_bindName (store_ok I4 hN hi (.inl hx) rv (fun s3 I5 => assignInOrder_nil (wpAny_pure ?_)) (.inr hx)))
  rw [List.set_comm _ _ (Ne.symm hij)] at I5
  exact ⟨_, H1, I5, q1⟩
end
section
variable {X : Cx} {pos : Pos}
def tWhile (c : TT) (tb : TS) : TS := fun D σ H => ∃ W : Nat → St → Hp → Prop, (∃ m, W m σ H) ∧ ∀ m σ H, W m σ H →
  c σ H fun b H1 => if b = true then ∃ N : St → Hp → Prop, (∀ σ' H', N σ' H' → ∃ m', m' < m ∧ W m' σ' H') ∧ tb { D with nx := N, ct := N, bk := D.nx } σ H1 else D.nx σ H1
theorem ps_while {c : Expr} {body : List Stmt} {tc : TT} {tb : TS} (hp : PassesOwn (model X.prog X.w) X.A X.env X.xe) (hc : PT X c tc) (hb : PSs X body tb) : PS X (.While c body [] pos) (tWhile tc tb) := by
  intro pins s σ H D I h
  obtain ⟨W, ⟨m0, w0⟩, turn⟩ := h
  refine wpAny_While (codeAny_whileLoop (fun n s' => ∃ σ' H', Inv X pins σ' H' s' ∧ W n σ' H') ?_ m0 ⟨σ, H, I, w0⟩)
  rintro n s1 ⟨σ1, H1, I1, w1⟩
  refine wpAny_passesOwn hp (thn (hc pins s1 σ1 H1 _ I1 (turn n σ1 H1 w1)) fun b s2 ⟨H2, I2, q2⟩ => ?_)
  cases b with
  | true =>
    obtain ⟨N, hN, q2⟩ := q2
    rw [if_pos rfl]
    refine wpAny_passesOwn hp (thn (hb pins s2 σ1 H2 _ I2 q2) fun f s3 q3 => ?_)
    cases f with
    | next =>
      obtain ⟨σ3, H3, I3, n3⟩ := q3
      obtain ⟨m', hm, w3⟩ := hN σ3 H3 n3
      exact ⟨m', hm, σ3, H3, I3, w3⟩
    | cont =>
      obtain ⟨σ3, H3, I3, n3⟩ := q3
      obtain ⟨m', hm, w3⟩ := hN σ3 H3 n3
      exact ⟨m', hm, σ3, H3, I3, w3⟩
    | brk => exact q3
    | ret v => exact q3
  | false =>
    rw [if_neg Bool.false_ne_true]
    exact wpAny_execs_nil ⟨σ1, H2, I2, q2⟩
end
structure It where
  go : Nat → Hp → Prop
  yld : Nat → Hp → V → Hp → Prop
  stop : Nat → Hp → Prop
def FpOk (X : Cx) (pins : List (Addr × Obj)) (H : Hp) (b : Addr) : Prop :=
  H b = none ∧ b ≠ X.env.locals ∧ b ∉ X.fs ∧ (b ∈ X.ex ∨ X.s₀.heap.objs.size ≤ b) ∧ (∀ x c, X.env.cells.lookup x = some c → c ≠ b) ∧ ∀ p ∈ X.pn ++ pins, p.1 ≠ b
theorem Inv.fpOk {X : Cx} {pins : List (Addr × Obj)} {σ : St} {H H' : Hp} {s : Shared} {b : Addr} (I : Inv X pins σ H s) (hb : s.heap.objs.size ≤ b) (hn : H' b = none) : FpOk X pins H' b := by
  refine ⟨hn, Nat.ne_of_gt (Nat.lt_of_lt_of_le I.lt hb), I.nofs hb, .inr (Nat.le_trans I.sz hb), fun x c e z => ?_, fun p hp z => ?_⟩
  · obtain ⟨v, q⟩ := I.cell x c e
    exact absurd (Nat.lt_of_lt_of_le q.lt (by rw [z]; exact hb)) (Nat.lt_irrefl _)
  · exact absurd (Nat.lt_of_lt_of_le (Heap.lt_size (I.pin p hp).1) (by rw [z]; exact hb)) (Nat.lt_irrefl _)
structure Turn (P : Program) (w : World) (K : PySem.W.Frag) (tg : Expr) (J : It) (fp : List Addr) (it : Addr) (tn : Nat → Heap → Prop) : Prop where
  mem : it ∈ fp
  obj : ∀ i h, tn i h → ∀ b ∈ fp, ∃ o, h.get? b = some o ∧ ∀ v, o.data ≠ .cell v
  keep : ∀ i h h', tn i h → (∀ b ∈ fp, ∀ o, h.get? b = some o → h'.get? b = some o) → tn i h'
  item : ∀ (X : Cx), X.prog = P → X.w = w → X.K = K → X.calm = true → ∀ (i : Nat) (pins : List (Addr × Obj)) (s : Shared) (σ : St) (H : Hp) (E : Value → Shared → Prop), Inv X pins σ H s → (∀ b ∈ fp, FpOk X pins H b) → tn i s.heap → J.go i H →
    wpAny (model P w) X.A (pyNext (.ref it)) (fun r s1 => ∃ u, r = some u ∧
      wpAny (model P w) X.A (letOwnedTupleGo tg (.ref it) u) (fun _ s2 => ∃ x H', Inv X pins σ H' s2 ∧ RelV x u ∧ J.yld i H x H' ∧ tn (i + 1) s2.heap ∧ ∀ b ∈ fp, H' b = none) E s1) E s
  done : ∀ (X : Cx), X.prog = P → X.w = w → X.K = K → X.calm = true → ∀ (i : Nat) (pins : List (Addr × Obj)) (s : Shared) (σ : St) (H : Hp) (E : Value → Shared → Prop), Inv X pins σ H s → (∀ b ∈ fp, FpOk X pins H b) → tn i s.heap → J.stop i H →
    wpAny (model P w) X.A (pyNext (.ref it)) (fun r s1 => r = none ∧ Inv X pins σ H s1) E s
  self : ∀ (A : Around) (i : Nat) (s : Shared) (Q : Value → Shared → Prop) (E : Value → Shared → Prop), tn i s.heap → Q (.ref it) s → wpAny (model P w) A (pyIter (.ref it)) Q E s
abbrev TI := St → Hp → (It → Hp → Prop) → Prop
def PIE (X : Cx) (pins : List (Addr × Obj)) (σ : St) (tg : Expr) (R : It → Hp → Prop) (itv : Value) (s2 : Shared) : Prop :=
  ∃ (it : Addr) (fp : List Addr) (tn : Nat → Heap → Prop) (J : It) (H' : Hp), itv = .ref it ∧ Inv X pins σ H' s2 ∧ Turn X.prog X.w X.K tg J fp it tn ∧ tn 0 s2.heap ∧ (∀ b ∈ fp, FpOk X pins H' b) ∧ R J H'
def PI (X : Cx) (tg iter : Expr) (wi : TI) : Prop :=
  ∀ (pins : List (Addr × Obj)) (s : Shared) (σ : St) (H : Hp) (R : It → Hp → Prop), Inv X pins σ H s → wi σ H R →
    wpAny (model X.prog X.w) X.A (eval iter X.env) (fun v s1 => wpAny (model X.prog X.w) X.A (pyIter v) (PIE X pins σ tg R) X.xe s1) X.xe s
theorem go_of {M : Model} {A : Around} {E : Value → Shared → Prop} {s : Shared} {tg : Expr} {it : Addr} {u : Value} {o : Obj} {n : String} {vs : Array Value} {Q : Unit → Shared → Prop} (ho : s.heap.get? it = some o) (hc : o.cls = .type n) (hd : o.data = .fields vs)
    (hn : ["enumerate", "zip", "dict_itemiterator", "dict_reverseitemiterator", "odict_iterator", "itertools.zip_longest", "itertools.pairwise"].contains n = false) (hQ : Q () s) : wpAny M A (letOwnedTupleGo tg (.ref it) u) Q E s := by
  unfold letOwnedTupleGo
  cases tg <;> first
    | exact wpAny_pure hQ
    | (cases u <;> first
        | exact wpAny_pure hQ
        | (refine wpAny_bind (wpAny_load ho ?_)
           rw [hc, hd]
           show wpAny M A (if (["enumerate", "zip", "dict_itemiterator", "dict_reverseitemiterator", "odict_iterator", "itertools.zip_longest", "itertools.pairwise"].contains n && vs[0]? == some (rawInt _)) = true then _ else _) Q E s
           rw [if_neg (by intro h; rw [hn, Bool.false_and] at h; cases h)]
           exact wpAny_pure hQ))
def Itl (K : PySem.W.Frag) (a : Addr) : It :=
  ⟨fun i H => ∃ xs x, SqL K H a xs ∧ xs[i]? = some x, fun i H x H' => H' = H ∧ ∀ xs, SqL K H a xs → xs[i]? = some x, fun i H => ∃ xs, SqL K H a xs ∧ xs.length ≤ i⟩
def Itt (K : PySem.W.Frag) (a : Addr) : It :=
  ⟨fun i H => ∃ xs x, SqT K H a xs ∧ xs[i]? = some x, fun i H x H' => H' = H ∧ ∀ xs, SqT K H a xs → xs[i]? = some x, fun i H => ∃ xs, SqT K H a xs ∧ xs.length ≤ i⟩
def Itr (lo : Int) (n : Nat) : It := ⟨fun i _ => i < n, fun i H x H' => H' = H ∧ x = .int (lo + i), fun i _ => n ≤ i⟩
theorem turn_list {P : Program} {w : World} {K : PySem.W.Frag} {tg : Expr} (a it : Addr) : Turn P w K tg (Itl K a) [it] it (fun i h => h.IsListIter it a i) where
  mem := by simp
  obj := fun i h st b hb => by
    have e : b = it := by simpa using hb
    subst e
    obtain ⟨o, e, c, d⟩ := st
    exact ⟨o, e, fun v z => by rw [d] at z; cases z⟩
  keep := fun i h h' st k => st.at fun o e => k it (by simp) o e
  item := by
    intro X hP hw hK hc i pins s σ H E I hf st hg
    subst hP hw hK
    obtain ⟨xs, x, hq, hx⟩ := hg
    obtain ⟨its, rv, p, hz⟩ := I.list hq
    obtain ⟨u, hu, ru⟩ := rv.get hx
    obtain ⟨f0, f1, f2, f3, f4, f5⟩ := hf it (by simp)
    refine wpAny_pyNext_list_item st p.isList (x := u) (by simpa using hu) fun h' st' sb => ?_
    have I1 : Inv X pins σ H { s with heap := h' } := I.turned (t' := s.toks) (fun b o hb e => (sb.2 b hb).trans e) f0 f1 f3 f4 f5
    obtain ⟨o, e, c, d⟩ := id st'
    exact ⟨u, rfl, go_of (s := { s with heap := h' }) e c d (by decide) ⟨x, H, I1, ru, ⟨rfl, fun ys hy => by rw [I.list_inj hy hq]; exact hx⟩, st', fun b hb => (hf b hb).1⟩⟩
  done := by
    intro X hP hw hK hc i pins s σ H E I hf st hg
    subst hP hw hK
    obtain ⟨xs, hq, hx⟩ := hg
    obtain ⟨its, rv, p, hz⟩ := I.list hq
    obtain ⟨f0, f1, f2, f3, f4, f5⟩ := hf it (by simp)
    have hl := rv.length
    exact wpAny_pyNext_list_end (I.ok.hd hc) st p.isList (by simp; omega) fun h' eb => ⟨rfl, I.turned (t' := s.toks) (fun b o hb e => eb b o hb e) f0 f1 f3 f4 f5⟩
  self := fun _ _ _ _ _ st h => wpAny_pyIter_listiter st h
theorem turn_tuple {P : Program} {w : World} {K : PySem.W.Frag} {tg : Expr} (a it : Addr) : Turn P w K tg (Itt K a) [it] it (fun i h => h.IsTupleIter it a i) where
  mem := by simp
  obj := fun i h st b hb => by
    have e : b = it := by simpa using hb
    subst e
    obtain ⟨o, e, c, d⟩ := st
    exact ⟨o, e, fun v z => by rw [d] at z; cases z⟩
  keep := fun i h h' st k => st.at fun o e => k it (by simp) o e
  item := by
    intro X hP hw hK hc i pins s σ H E I hf st hg
    subst hP hw hK
    obtain ⟨xs, x, hq, hx⟩ := hg
    obtain ⟨its, rv, p, hz⟩ := I.tuple hq
    obtain ⟨u, hu, ru⟩ := rv.get hx
    obtain ⟨f0, f1, f2, f3, f4, f5⟩ := hf it (by simp)
    refine wpAny_pyNext_tuple_item st (show s.heap.IsTuple a its.toArray from p) (x := u) (by simpa using hu) fun h' st' sb => ?_
    have I1 : Inv X pins σ H { s with heap := h' } := I.turned (t' := s.toks) (fun b o hb e => (sb.2 b hb).trans e) f0 f1 f3 f4 f5
    obtain ⟨o, e, c, d⟩ := id st'
    exact ⟨u, rfl, go_of (s := { s with heap := h' }) e c d (by decide) ⟨x, H, I1, ru, ⟨rfl, fun ys hy => by rw [I.tuple_inj hy hq]; exact hx⟩, st', fun b hb => (hf b hb).1⟩⟩
  done := by
    intro X hP hw hK hc i pins s σ H E I hf st hg
    subst hP hw hK
    obtain ⟨xs, hq, hx⟩ := hg
    obtain ⟨its, rv, p, hz⟩ := I.tuple hq
    obtain ⟨f0, f1, f2, f3, f4, f5⟩ := hf it (by simp)
    have hl := rv.length
    exact wpAny_pyNext_tuple_end (I.ok.hd hc) st (show s.heap.IsTuple a its.toArray from p) (by simp; omega) fun h' eb => ⟨rfl, I.turned (t' := s.toks) (fun b o hb e => eb b o hb e) f0 f1 f3 f4 f5⟩
  self := fun _ _ _ _ _ st h => wpAny_pyIter_tupleiter st h
theorem turn_range {P : Program} {w : World} {K : PySem.W.Frag} {tg : Expr} (it : Addr) (lo : Int) (n : Nat) : Turn P w K tg (Itr lo n) [it] it (fun i h => IsRangeIter h it (lo + (i : Nat) * 1) ((n : Int) - (i : Nat)) 1) where
  mem := by simp
  obj := fun i h st b hb => by
    have e : b = it := by simpa using hb
    subst e
    exact ⟨_, st, fun v z => by
      have z' : Data.fields _ = Data.cell v := z
      cases z'⟩
  keep := fun i h h' st k => k it (by simp) _ st
  item := by
    intro X hP hw hK hc i pins s σ H E I hf st hg
    subst hP hw hK
    obtain ⟨f0, f1, f2, f3, f4, f5⟩ := hf it (by simp)
    have W := Walks.range (prog := X.prog) (w := X.w) (I.ok.hd hc) it lo 1 n
    refine W.item i s _ _ hg st fun v h' tk hv st' kk => ?_
    obtain ⟨t, rfl⟩ := hv
    have I1 : Inv X pins σ H { s with heap := h', toks := tk } := I.turned (fun b o hb e => kk b o (by simpa using hb) e) f0 f1 f3 f4 f5
    refine ⟨_, rfl, go_of (s := { s with heap := h', toks := tk }) (n := "range_iterator") st' rfl rfl (by decide) ⟨.int (lo + i), H, I1, ⟨t, ?_⟩, ⟨rfl, rfl⟩, st', fun b hb => (hf b hb).1⟩⟩
    rw [Int.mul_one]
  done := by
    intro X hP hw hK hc i pins s σ H E I hf st hg
    subst hP hw hK
    obtain ⟨f0, f1, f2, f3, f4, f5⟩ := hf it (by simp)
    exact wpAny_pyNext_range_end (I.ok.hd hc) st (by have : n ≤ i := hg; omega) fun h' eb => ⟨rfl, I.turned (t' := s.toks) (fun b o hb e => eb b o hb e) f0 f1 f3 f4 f5⟩
  self := fun _ _ _ _ _ st h => wpAny_pyIter_rangeiter st h
end L2
namespace L2
open PySem PySem.Spec PyProof.Rows
section
variable {X : Cx} {tg : Expr}
def iList (K : PySem.W.Frag) (tl : TE) : TI := fun σ H R => tl σ H fun x H1 => ∃ a, x = .ref a ∧ (∃ xs, SqL K H1 a xs) ∧ R (Itl K a) H1
def iTup (K : PySem.W.Frag) (tl : TE) : TI := fun σ H R => tl σ H fun x H1 => ∃ a, x = .ref a ∧ (∃ xs, SqT K H1 a xs) ∧ R (Itt K a) H1
theorem pi_list {l : Expr} {tl : TE} (hl : PE X l tl) : PI X tg l (iList X.K tl) := by
  intro pins s σ H R I h
  refine thn (hl pins s σ H _ I h) fun v s1 ⟨x, H1, I1, r1, q1⟩ => ?_
  obtain ⟨a, e, ⟨xs, hq⟩, q⟩ := q1
  subst e
  cases r1
  obtain ⟨its, rv, p, hz⟩ := I1.list hq
  refine wpAny_pyIter_list p.isList ?_
  refine ⟨s1.heap.objs.size, [s1.heap.objs.size], _, _, H1, rfl, I1.kept (t' := s1.toks) fun b o e => Heap.get?_push_of_some _ e, turn_list a _, ⟨_, Heap.get?_push_size _ rfl, rfl, rfl⟩, fun b hb => ?_, q⟩
  have e : b = s1.heap.objs.size := by simpa using hb
  subst e
  exact I1.fpOk (Nat.le_refl _) (I1.hok.fresh (Nat.le_refl _))
theorem pi_tup {l : Expr} {tl : TE} (hl : PE X l tl) : PI X tg l (iTup X.K tl) := by
  intro pins s σ H R I h
  refine thn (hl pins s σ H _ I h) fun v s1 ⟨x, H1, I1, r1, q1⟩ => ?_
  obtain ⟨a, e, ⟨xs, hq⟩, q⟩ := q1
  subst e
  cases r1
  obtain ⟨its, rv, p, hz⟩ := I1.tuple hq
  refine wpAny_pyIter_tuple (show s1.heap.IsTuple a its.toArray from p) ?_
  refine ⟨s1.heap.objs.size, [s1.heap.objs.size], _, _, H1, rfl, I1.kept (t' := s1.toks) fun b o e => Heap.get?_push_of_some _ e, turn_tuple a _, ⟨_, Heap.get?_push_size _ rfl, rfl, rfl⟩, fun b hb => ?_, q⟩
  have e : b = s1.heap.objs.size := by simpa using hb
  subst e
  exact I1.fpOk (Nat.le_refl _) (I1.hok.fresh (Nat.le_refl _))
theorem range_it {pins : List (Addr × Obj)} {σ : St} {H : Hp} {s : Shared} {R : It → Hp → Prop} {E : Value → Shared → Prop} {lo hi : Int} {t u v : Tok} {tk : Nat} (I : Inv X pins σ H s) (h1 : -(2 ^ 62) ≤ lo) (h2 : lo < 2 ^ 62) (h3 : -(2 ^ 62) ≤ hi) (h4 : hi < 2 ^ 62)
    (q : R (Itr lo (hi - lo).toNat) H) : wpAny (model X.prog X.w) X.A (pyIter (.ref s.heap.objs.size)) (PIE X pins σ tg R) E { s with heap := s.heap.push { cls := .type "range", data := .fields #[.int lo t, .int hi u, .int 1 v] }, toks := tk } := by
  refine wpAny_pyIter_range (IsRange.new ..) (small_one h1 h2 h3 h4) ?_
  have I1 : Inv X pins σ H { s with heap := s.heap.push { cls := .type "range", data := .fields #[.int lo t, .int hi u, .int 1 v] }, toks := tk } := I.kept fun b o e => Heap.get?_push_of_some _ e
  refine ⟨(s.heap.push { cls := .type "range", data := .fields #[.int lo t, .int hi u, .int 1 v] }).objs.size, [(s.heap.push { cls := .type "range", data := .fields #[.int lo t, .int hi u, .int 1 v] }).objs.size], _, _, H, rfl,
    I1.kept (t' := tk) fun b o e => Heap.get?_push_of_some _ e, turn_range _ lo (hi - lo).toNat, ?_, fun b hb => ?_, q⟩
  · have e1 : lo + ((0 : Nat) : Int) * 1 = lo := by simp
    have e2 : (((hi - lo).toNat : Nat) : Int) - ((0 : Nat) : Int) = Builtin.Range.rangeSize lo hi 1 := by rw [rangeSize_one]; split <;> omega
    show IsRangeIter _ _ (lo + ((0 : Nat) : Int) * 1) ((((hi - lo).toNat : Nat) : Int) - ((0 : Nat) : Int)) 1
    rw [e1, e2]
    exact Heap.get?_push_size _ rfl
  · have e : b = (s.heap.push { cls := .type "range", data := .fields #[.int lo t, .int hi u, .int 1 v] }).objs.size := by simpa using hb
    subst e
    exact I1.fpOk (Nat.le_refl _) (I1.hok.fresh (Nat.le_refl _))
def iRng1 (ta : TA) : TI := fun σ H R => ta σ H fun vs H1 => ∃ j : Int, vs = [.int j] ∧ -(2 ^ 62) ≤ j ∧ j < 2 ^ 62 ∧ R (Itr 0 j.toNat) H1
theorem pi_range1 {a : Expr} {ta : TA} {p pos : Pos} (hg : Gl X "range") (hm : X.mg "range" = none) (ha : PA X [a] ta) (hs : starEach [a] X.env = [(false, eval a X.env)] := by rfl) : PI X tg (.Call (.Name "range" p) [a] [] pos) (iRng1 ta) := by
  intro pins s σ H R I h
  refine Call_ (ld_blt I hg hm boot_range (PyProof.Rows.callWith_type1 (thn (ha pos pins s σ H _ I h) fun us s1 ⟨vs, H1, I1, r1, q1⟩ => ?_) hs rfl))
  obtain ⟨j, e, q1, q2, q⟩ := q1
  subst e
  cases r1 with
  | cons r rr =>
    cases rr
    obtain ⟨t, rfl⟩ := r
    exact call_range_1 (range_it I1 (by omega) (by omega) q1 q2 (by simpa using q))
def tFor (wi : TI) (g : TG) (tb : TS) : TS := fun D σ H => wi σ H fun J H1 => ∃ W : Nat → Nat → St → Hp → Prop, (∃ m, W 0 m σ H1) ∧ ∀ i m σ H, W i m σ H →
  (J.stop i H ∧ D.nx σ H) ∨ (J.go i H ∧ ∃ N : St → Hp → Prop, (∀ σ' H', N σ' H' → ∃ m', m' < m ∧ W (i + 1) m' σ' H') ∧ ∀ x H', J.yld i H x H' → g x σ H' fun σ2 H2 => tb { D with nx := N, ct := N, bk := D.nx } σ2 H2)
def pinsAt (fp : List Addr) (h : Heap) : List (Addr × Obj) := fp.filterMap fun b => (h.get? b).map fun o => (b, o)
theorem mem_pinsAt {fp : List Addr} {h : Heap} {b : Addr} {o : Obj} (hb : b ∈ fp) (e : h.get? b = some o) : (b, o) ∈ pinsAt fp h := List.mem_filterMap.mpr ⟨b, hb, by rw [e]; rfl⟩
theorem of_pinsAt {fp : List Addr} {h : Heap} {p : Addr × Obj} (hp : p ∈ pinsAt fp h) : p.1 ∈ fp ∧ h.get? p.1 = some p.2 := by
  obtain ⟨b, hb, e⟩ := List.mem_filterMap.mp hp
  cases q : h.get? b with
  | none => rw [q] at e; cases e
  | some o =>
    rw [q] at e
    have e' : (b, o) = p := Option.some.inj e
    subst e'
    exact ⟨hb, q⟩
theorem Inv.pinned {pins : List (Addr × Obj)} {σ : St} {H : Hp} {s : Shared} {fp : List Addr} (I : Inv X pins σ H s) (hf : ∀ b ∈ fp, FpOk X pins H b) (ho : ∀ b ∈ fp, ∃ o, s.heap.get? b = some o ∧ ∀ v, o.data ≠ .cell v) : Inv X (pins ++ pinsAt fp s.heap) σ H s :=
  I.pins_of fun p hp => (List.mem_append.mp hp).elim (fun z => I.pin p (List.mem_append_right _ z)) fun z => by
    obtain ⟨hb, e⟩ := of_pinsAt z
    obtain ⟨f0, f1, f2, _⟩ := hf p.1 hb
    obtain ⟨o, e', d⟩ := ho p.1 hb
    rw [e] at e'; cases e'
    exact ⟨e, f0, f1, f2, d⟩
theorem Inv.unpinned {pins pl : List (Addr × Obj)} {σ : St} {H : Hp} {s : Shared} (I : Inv X (pins ++ pl) σ H s) : Inv X pins σ H s := I.pins_of fun p hp => I.pin p (List.mem_append_right _ (List.mem_append_left _ hp))
theorem ps_for {iter : Expr} {body : List Stmt} {wi : TI} {g : TG} {tb : TS} {pos : Pos} (hp : PassesOwn (model X.prog X.w) X.A X.env X.xe) (hc : X.calm = true) (hi : PI X tg iter wi) (hg : PG X tg g) (hb : PSs X body tb)
    (hs : ∀ x, foldedSetIterable iter X.env x = pure x := by intro _; rfl) : PS X (.For tg iter body [] pos) (tFor wi g tb) := by
  intro pins s σ H D I h
  refine wpAny_For (thn (hi pins s σ H _ I h) fun v s1 h1 => thn h1 fun itv s2 h2 => ?_) hs
  obtain ⟨it, fp, tn, J, H2, e, I2, T, st2, f2, W, ⟨m0, w0⟩, turn⟩ := h2
  subst e
  have stat : ∀ {H' : Hp}, (∀ b ∈ fp, H' b = none) → ∀ b ∈ fp, FpOk X pins H' b := fun hn b hb => ⟨hn b hb, (f2 b hb).2⟩
  refine codeAny_forLoop_any (fun n s' => ∃ i σ' H', Inv X pins σ' H' s' ∧ tn i s'.heap ∧ (∀ b ∈ fp, H' b = none) ∧ W i n σ' H') ?_ m0 ⟨0, σ, H2, I2, st2, fun b hb => (f2 b hb).1, w0⟩
  rintro n s3 ⟨i, σ3, H3, I3, st3, fr3, w3⟩
  rcases turn i n σ3 H3 w3 with ⟨stop, qn⟩ | ⟨go, N, hN, step⟩
  · refine wpAny_passesOwn hp (thn (T.done X rfl rfl rfl hc i pins s3 σ3 H3 X.xe I3 (stat fr3) st3 stop) fun r s4 ⟨hr, I4⟩ => ?_)
    subst hr
    exact wpAny_execs_nil ⟨σ3, H3, I4, qn⟩
  · refine wpAny_passesOwn hp (thn (T.item X rfl rfl rfl hc i pins s3 σ3 H3 X.xe I3 (stat fr3) st3 go) fun r s4 ⟨u, hr, h4⟩ => ?_)
    subst hr
    refine wpAny_passesOwn hp (thn h4 fun _ s5 ⟨x, H5, I5, r5, y5, st5, fr5⟩ => ?_)
    have I5' := I5.pinned (stat fr5) (T.obj _ _ st5)
    refine wpAny_passesOwn hp (thn (hg _ s5 σ3 H5 x u _ I5' r5 (step x H5 y5)) fun _ s6 ⟨σ6, H6, I6, q6⟩ => ?_)
    refine wpAny_passesOwn hp (thn (hb _ s6 σ6 H6 _ I6 q6) fun f s7 q7 => ?_)
    have again : ∀ {σ7 : St} {H7 : Hp}, Inv X (pins ++ pinsAt fp s5.heap) σ7 H7 s7 → N σ7 H7 → ∃ m, m < n ∧ ∃ i σ' H', Inv X pins σ' H' s7 ∧ tn i s7.heap ∧ (∀ b ∈ fp, H' b = none) ∧ W i m σ' H' := fun {σ7 H7} I7 n7 => by
      obtain ⟨m', hm, w7⟩ := hN σ7 H7 n7
      refine ⟨m', hm, i + 1, σ7, H7, I7.unpinned, T.keep _ _ _ st5 fun b hb o e => (I7.pin (b, o) (List.mem_append_right _ (List.mem_append_right _ (mem_pinsAt hb e)))).1, fun b hb => ?_, w7⟩
      obtain ⟨o, e, d⟩ := T.obj _ _ st5 b hb
      exact (I7.pin (b, o) (List.mem_append_right _ (List.mem_append_right _ (mem_pinsAt hb e)))).2.1
    cases f with
    | next => obtain ⟨σ7, H7, I7, n7⟩ := q7; exact again I7 n7
    | cont => obtain ⟨σ7, H7, I7, n7⟩ := q7; exact again I7 n7
    | brk => obtain ⟨σ7, H7, I7, q7⟩ := q7; exact ⟨σ7, H7, I7.unpinned, q7⟩
    | ret v => obtain ⟨x7, σ7, H7, I7, r7, q7⟩ := q7; exact ⟨x7, σ7, H7, I7.unpinned, r7, q7⟩
end
theorem for_list {K : PySem.W.Frag} {a : Addr} {xs : List V} {g : TG} {tb : TS} {D : Ends} {σ : St} {H : Hp} (Pv : Nat → St → Hp → Prop) (h0 : Pv 0 σ H) (hl : ∀ i σ H, i ≤ xs.length → Pv i σ H → SqL K H a xs)
    (hs : ∀ i x σ H, xs[i]? = some x → Pv i σ H → g x σ H fun σ2 H2 => tb { D with nx := Pv (i + 1), ct := Pv (i + 1), bk := D.nx } σ2 H2) (hd : ∀ σ H, Pv xs.length σ H → D.nx σ H) :
    ∃ W : Nat → Nat → St → Hp → Prop, (∃ m, W 0 m σ H) ∧ ∀ i m σ H, W i m σ H →
      ((Itl K a).stop i H ∧ D.nx σ H) ∨ ((Itl K a).go i H ∧ ∃ N : St → Hp → Prop, (∀ σ' H', N σ' H' → ∃ m', m' < m ∧ W (i + 1) m' σ' H') ∧ ∀ x H', (Itl K a).yld i H x H' → g x σ H' fun σ2 H2 => tb { D with nx := N, ct := N, bk := D.nx } σ2 H2) := by
  refine ⟨fun i m σ H => m = xs.length - i ∧ i ≤ xs.length ∧ Pv i σ H, ⟨xs.length, by simp, Nat.zero_le _, h0⟩, ?_⟩
  rintro i m σ H ⟨rfl, hi, p⟩
  have q := hl i σ H hi p
  by_cases hlt : i < xs.length
  · refine .inr ⟨⟨xs, xs[i], q, by simp [hlt]⟩, Pv (i + 1), fun σ' H' p' => ⟨xs.length - (i + 1), by omega, rfl, hlt, p'⟩, fun x H' y => ?_⟩
    obtain ⟨e, y⟩ := y
    subst e
    exact hs i x σ _ (y xs q) p
  · have e : i = xs.length := by omega
    subst e
    exact .inl ⟨⟨xs, q, Nat.le_refl _⟩, hd σ H p⟩
theorem for_range {lo : Int} {n : Nat} {g : TG} {tb : TS} {D : Ends} {σ : St} {H : Hp} (Pv : Nat → St → Hp → Prop) (h0 : Pv 0 σ H)
    (hs : ∀ i σ H, i < n → Pv i σ H → g (.int (lo + i)) σ H fun σ2 H2 => tb { D with nx := Pv (i + 1), ct := Pv (i + 1), bk := D.nx } σ2 H2) (hd : ∀ σ H, Pv n σ H → D.nx σ H) :
    ∃ W : Nat → Nat → St → Hp → Prop, (∃ m, W 0 m σ H) ∧ ∀ i m σ H, W i m σ H →
      ((Itr lo n).stop i H ∧ D.nx σ H) ∨ ((Itr lo n).go i H ∧ ∃ N : St → Hp → Prop, (∀ σ' H', N σ' H' → ∃ m', m' < m ∧ W (i + 1) m' σ' H') ∧ ∀ x H', (Itr lo n).yld i H x H' → g x σ H' fun σ2 H2 => tb { D with nx := N, ct := N, bk := D.nx } σ2 H2) := by
  refine ⟨fun i m σ H => m = n - i ∧ i ≤ n ∧ Pv i σ H, ⟨n, by simp, Nat.zero_le _, h0⟩, ?_⟩
  rintro i m σ H ⟨rfl, hi, p⟩
  by_cases hlt : i < n
  · refine .inr ⟨hlt, Pv (i + 1), fun σ' H' p' => ⟨n - (i + 1), by omega, rfl, hlt, p'⟩, fun x H' y => ?_⟩
    obtain ⟨e, y⟩ := y
    subst e y
    exact hs i σ _ hlt p
  · have e : i = n := by omega
    subst e
    exact .inl ⟨Nat.le_refl _, hd σ H p⟩
end L2
namespace L2
open PySem PySem.Spec PyProof.Rows
abbrev R2 := V → V → Hp → VK → Prop
def OpR (X : Cx) (f : Value → Value → Sem Value) (r : R2) : Prop :=
  ∀ (pins : List (Addr × Obj)) (s : Shared) (σ : St) (H : Hp) (x y : V) (v u : Value) (Q : VK), Inv X pins σ H s → RelV x v → RelV y u → r x y H Q →
    wpAny (model X.prog X.w) X.A (f v u) (EP X pins σ Q) X.xe s
def UnR (X : Cx) (f : Value → Sem Value) (r : V → Hp → VK → Prop) : Prop :=
  ∀ (pins : List (Addr × Obj)) (s : Shared) (σ : St) (H : Hp) (x : V) (v : Value) (Q : VK), Inv X pins σ H s → RelV x v → r x H Q →
    wpAny (model X.prog X.w) X.A (f v) (EP X pins σ Q) X.xe s
def CallR (X : Cx) (f : Value) (r : List V → Hp → VK → Prop) : Prop :=
  ∀ (pins : List (Addr × Obj)) (s : Shared) (σ : St) (H : Hp) (xs : List V) (us : List Value) (Q : VK), Inv X pins σ H s → Vals xs us → r xs H Q →
    wpAny (model X.prog X.w) X.A (call f us) (EP X pins σ Q) X.xe s
def TruR (X : Cx) (r : V → Hp → (Bool → Hp → Prop) → Prop) : Prop :=
  ∀ (pins : List (Addr × Obj)) (s : Shared) (σ : St) (H : Hp) (x : V) (v : Value) (Q : Bool → Hp → Prop), Inv X pins σ H s → RelV x v → r x H Q →
    wpAny (model X.prog X.w) X.A (truthy v) (TP X pins σ Q) X.xe s
def tOp (r : R2) (ta tb : TE) : TE := fun σ H Q => ta σ H fun x H1 => tb σ H1 fun y H2 => r x y H2 Q
def tUn (r : V → Hp → VK → Prop) (ta : TE) : TE := fun σ H Q => ta σ H fun x H1 => r x H1 Q
def rI (C : Int → Int → Prop) (g : Int → Int → V) : R2 := fun x y H Q => ∃ i j, x = .int i ∧ y = .int j ∧ C i j ∧ Q (g i j) H
def rI0 (g : Int → Int → V) : R2 := fun x y H Q => ∃ i j, x = .int i ∧ y = .int j ∧ Q (g i j) H
def rU (g : Int → V) : V → Hp → VK → Prop := fun x H Q => ∃ i, x = .int i ∧ Q (g i) H
section
variable {X : Cx} {a b c : Expr} {ta tb tc : TE} {pos : Pos}
theorem binT (ha : PE X a ta) (hb : PE X b tb) {pins : List (Addr × Obj)} {s : Shared} {σ : St} {H : Hp} {R : V → V → Hp → Prop} (I : Inv X pins σ H s)
    (h : ta σ H fun x H1 => tb σ H1 fun y H2 => R x y H2) {Q : Value → Shared → Prop} {f : Value → Value → Sem Value}
    (hf : ∀ v u s2 x y H2, Inv X pins σ H2 s2 → RelV x v → RelV y u → R x y H2 → wpAny (model X.prog X.w) X.A (f v u) Q X.xe s2) :
    wpAny (model X.prog X.w) X.A (eval a X.env) (fun v s₁ => wpAny (model X.prog X.w) X.A (eval b X.env) (fun u s₂ => wpAny (model X.prog X.w) X.A (f v u) Q X.xe s₂) X.xe s₁) X.xe s := by
  refine thn (ha pins s σ H _ I h) fun v s1 ⟨x, H1, I1, r1, q1⟩ => ?_
  refine thn (hb pins s1 σ H1 _ I1 q1) fun u s2 ⟨y, H2, I2, r2, q2⟩ => ?_
  exact hf v u s2 x y H2 I2 r1 r2 q2
theorem pe_op {op : Operator} {r : R2} (ho : OpR X (binaryOp op) r) (ha : PE X a ta) (hb : PE X b tb) : PE X (.BinOp a op b pos) (tOp r ta tb) := by
  intro pins s σ H Q I h
  exact wpAny_BinOp (binT ha hb I h fun v u s2 x y H2 I2 rx ry q => ho pins s2 σ H2 x y v u Q I2 rx ry q)
theorem pe_un {op : UnaryOp} {r : V → Hp → VK → Prop} (ho : UnR X (unaryOp op) r) (ha : PE X a ta) : PE X (.UnaryOp op a pos) (tUn r ta) := by
  intro pins s σ H Q I h
  exact UnaryOp_ (thn (ha pins s σ H _ I h) fun v s1 ⟨x, H1, I1, r1, q1⟩ => ho pins s1 σ H1 x v Q I1 r1 q1)
theorem opI {f : Value → Value → Sem Value} {C : Int → Int → Prop} {g : Int → Int → Int}
    (rule : ∀ (i j : Int) (t u : Tok) (s : Shared) (Q : Value → Shared → Prop) (E : Value → Shared → Prop), C i j → Q (.int (g i j) s.toks) { s with toks := s.toks + 1 } → wpAny (model X.prog X.w) X.A (f (.int i t) (.int j u)) Q E s) :
    OpR X f (rI C fun i j => .int (g i j)) := by
  intro pins s σ H x y v u Q I rx ry h
  obtain ⟨i, j, rfl, rfl, hc, q⟩ := h
  obtain ⟨t, rfl⟩ := rx
  obtain ⟨t', rfl⟩ := ry
  exact rule i j t t' s _ _ hc ⟨.int (g i j), H, I.tok _, ⟨_, rfl⟩, q⟩
theorem opI0 {f : Value → Value → Sem Value} {g : Int → Int → Int}
    (rule : ∀ (i j : Int) (t u : Tok) (s : Shared) (Q : Value → Shared → Prop) (E : Value → Shared → Prop), Q (.int (g i j) s.toks) { s with toks := s.toks + 1 } → wpAny (model X.prog X.w) X.A (f (.int i t) (.int j u)) Q E s) :
    OpR X f (rI0 fun i j => .int (g i j)) := by
  intro pins s σ H x y v u Q I rx ry h
  obtain ⟨i, j, rfl, rfl, q⟩ := h
  obtain ⟨t, rfl⟩ := rx
  obtain ⟨t', rfl⟩ := ry
  exact rule i j t t' s _ _ ⟨.int (g i j), H, I.tok _, ⟨_, rfl⟩, q⟩
theorem opB0 {f : Value → Value → Sem Value} {g : Int → Int → Bool}
    (rule : ∀ (i j : Int) (t u : Tok) (s : Shared) (Q : Value → Shared → Prop) (E : Value → Shared → Prop), Q (.bool (g i j)) s → wpAny (model X.prog X.w) X.A (f (.int i t) (.int j u)) Q E s) :
    OpR X f (rI0 fun i j => .bl (g i j)) := by
  intro pins s σ H x y v u Q I rx ry h
  obtain ⟨i, j, rfl, rfl, q⟩ := h
  obtain ⟨t, rfl⟩ := rx
  obtain ⟨t', rfl⟩ := ry
  exact rule i j t t' s _ _ ⟨.bl (g i j), H, I, rfl, q⟩
def CDiv (i j : Int) : Prop := 0 < j ∧ j < 1073741824
def CPow (i j : Int) : Prop := 0 ≤ j ∧ j ≤ 1000000 ∧ i.natAbs < 2 ^ 64
def CMul (i j : Int) : Prop := (-(2 ^ 64) < i ∧ i < 2 ^ 64) ∨ (-(2 ^ 64) < j ∧ j < 2 ^ 64)
theorem CMul.ok {i j : Int} (h : CMul i j) : IntMulOk i j := by
  rcases h with ⟨h1, h2⟩ | ⟨h1, h2⟩
  · exact .of_left (intBits_le_64 h1 h2)
  · exact .of_right (intBits_le_64 h1 h2)
theorem two_pow_nn (k : Nat) : (0 : Int) ≤ 2 ^ k := by
  rw [two_pow_cast]
  exact Int.natCast_nonneg _
theorem op_add : OpR X (binaryOp .Add) (rI0 fun i j => .int (i + j)) := opI0 fun _ _ _ _ _ _ _ q => add_int q
theorem op_sub : OpR X (binaryOp .Sub) (rI0 fun i j => .int (i - j)) := opI0 fun _ _ _ _ _ _ _ q => sub_int q
theorem op_mul : OpR X (binaryOp .Mult) (rI CMul fun i j => .int (i * j)) := opI fun _ _ _ _ _ _ _ hc q => mul_int q hc.ok
theorem op_fdiv : OpR X (binaryOp .FloorDiv) (rI CDiv fun i j => .int (i / j)) := opI fun i j _ _ _ _ _ hc q => by
  have h1 : (0 : Int) < j := hc.1
  have h2 : j < 1073741824 := hc.2
  exact floordiv_int (by omega) (by rw [Int.fdiv_eq_ediv_of_nonneg i (by omega)]; exact q) (.inl (PyProof.noPylong_small (by omega)))
theorem op_mod : OpR X (binaryOp .Mod) (rI (fun _ j => 0 < j) fun i j => .int (i % j)) := opI fun i j _ _ _ _ _ hc q => by
  have h1 : (0 : Int) < j := hc
  exact mod_int' (by omega) (by rw [Int.fmod_eq_emod_of_nonneg i (by omega)]; exact q)
theorem op_pow : OpR X (binaryOp .Pow) (rI CPow fun i j => .int (i ^ j.toNat)) := opI fun _ _ _ _ _ _ _ hc q => pow_int_small hc.1 hc.2.1 hc.2.2 q
theorem op_shr : OpR X (binaryOp .RShift) (rI (fun _ j => 0 ≤ j) fun i j => .int (i / 2 ^ j.toNat)) := opI fun i j _ _ _ _ _ hc q =>
  rshift_int hc (by rw [Int.fdiv_eq_ediv_of_nonneg i (two_pow_nn _)]; exact q)
theorem op_and : OpR X (binaryOp .BitAnd) (rI0 fun i j => .int (Builtin.bitAnd i j)) := opI0 fun _ _ _ _ _ _ _ q => and_int q
theorem unI {f : Value → Sem Value} {g : Int → Int}
    (rule : ∀ (i : Int) (t : Tok) (s : Shared) (Q : Value → Shared → Prop) (E : Value → Shared → Prop), Q (.int (g i) s.toks) { s with toks := s.toks + 1 } → wpAny (model X.prog X.w) X.A (f (.int i t)) Q E s) :
    UnR X f (rU fun i => .int (g i)) := by
  intro pins s σ H x v Q I rx h
  obtain ⟨i, rfl, q⟩ := h
  obtain ⟨t, rfl⟩ := rx
  exact rule i t s _ _ ⟨.int (g i), H, I.tok _, ⟨_, rfl⟩, q⟩
theorem un_neg : UnR X (unaryOp .USub) (rU fun i => .int (-i)) := unI fun _ _ _ _ _ q => neg_int q
end
def scal : V → V → Bool
  | .non, .non => true | .non, .int _ => true | .int _, .non => true | .non, .bl _ => true | .bl _, .non => true | .non, .str _ => true | .str _, .non => true
  | .int _, .int _ => true | .bl _, .bl _ => true | .str _, .str _ => true | .byt _, .byt _ => true
  | .int _, .str _ => true | .str _, .int _ => true | .bl _, .str _ => true | .str _, .bl _ => true
  | _, _ => false
def rEq : R2 := fun x y H Q => scal x y = true ∧ Q (.bl (decide (x = y))) H
def rNe : R2 := fun x y H Q => scal x y = true ∧ Q (.bl (!decide (x = y))) H
theorem dec_int {i j : Int} : decide (V.int i = V.int j) = (i == j) := by
  rw [Bool.eq_iff_iff]
  simp
theorem dec_bl {i j : Bool} : decide (V.bl i = V.bl j) = (i == j) := by
  rw [Bool.eq_iff_iff]
  simp
theorem dec_str {i j : Str} : decide (V.str i = V.str j) = (i == j) := by
  rw [Bool.eq_iff_iff]
  simp
theorem dec_byt {i j : Array UInt8} : decide (V.byt i = V.byt j) = (i.toList == j.toList) := by
  rw [Bool.eq_iff_iff]
  cases i
  cases j
  simp
section
variable {X : Cx} {a b c : Expr} {ta tb tc : TE} {pos : Pos}
theorem fin_bl {pins : List (Addr × Obj)} {σ : St} {H : Hp} {s : Shared} {Q : VK} {k k' : Bool} (I : Inv X pins σ H s) (q : Q (.bl k) H) (e : k = k') : EP X pins σ Q (.bool k') s := by
  subst e
  exact ⟨.bl k, H, I, rfl, q⟩
theorem op_eq : OpR X (compareOp .Eq) rEq := by
  intro pins s σ H x y v u Q I rx ry h
  obtain ⟨hs, q⟩ := h
  cases x with
  | non =>
    cases rx
    cases y with
    | non => cases ry; exact PySem.EqNone.eq_none_none (fin_bl I q (by simp))
    | bl j => cases ry; exact PySem.EqNone.eq_none_bool (fin_bl I q (by simp))
    | int j => obtain ⟨t', rfl⟩ := ry; exact PySem.EqNone.eq_none_int (fin_bl I q (by simp))
    | str j => obtain ⟨t', rfl⟩ := ry; exact PySem.EqNone.eq_none_str (fin_bl I q (by simp))
    | _ => exact absurd (show false = true from hs) Bool.false_ne_true
  | bl i =>
    cases rx
    cases y with
    | non => cases ry; exact PySem.EqNone.eq_bool_none (fin_bl I q (by simp))
    | bl j => cases ry; exact eq_bool (fin_bl I q dec_bl)
    | str j => obtain ⟨t', rfl⟩ := ry; exact PySem.EqMixed.eq_bool_str (fin_bl I q (by simp))
    | _ => exact absurd (show false = true from hs) Bool.false_ne_true
  | int i =>
    obtain ⟨t, rfl⟩ := rx
    cases y with
    | non => cases ry; exact PySem.EqNone.eq_int_none (fin_bl I q (by simp))
    | int j => obtain ⟨t', rfl⟩ := ry; exact eq_int (fin_bl I q dec_int)
    | str j => obtain ⟨t', rfl⟩ := ry; exact PySem.EqMixed.eq_int_str (fin_bl I q (by simp))
    | _ => exact absurd (show false = true from hs) Bool.false_ne_true
  | str i =>
    obtain ⟨t, rfl⟩ := rx
    cases y with
    | non => cases ry; exact PySem.EqNone.eq_str_none (fin_bl I q (by simp))
    | bl j => cases ry; exact PySem.EqMixed.eq_str_bool (fin_bl I q (by simp))
    | int j => obtain ⟨t', rfl⟩ := ry; exact PySem.EqMixed.eq_str_int (fin_bl I q (by simp))
    | str j => obtain ⟨t', rfl⟩ := ry; exact eq_str (fin_bl I q dec_str)
    | _ => exact absurd (show false = true from hs) Bool.false_ne_true
  | byt i =>
    obtain ⟨t, rfl⟩ := rx
    cases y with
    | byt j => obtain ⟨t', rfl⟩ := ry; exact PySem.W.eq_bytes (fin_bl I q dec_byt)
    | _ => exact absurd (show false = true from hs) Bool.false_ne_true
  | _ => cases y <;> exact absurd (show false = true from hs) Bool.false_ne_true
theorem op_ne : OpR X (compareOp .NotEq) rNe := by
  intro pins s σ H x y v u Q I rx ry h
  obtain ⟨hs, q⟩ := h
  cases x with
  | non =>
    cases rx
    cases y with
    | non => cases ry; exact PySem.EqNone.ne_none_none (fin_bl I q (by simp))
    | bl j => cases ry; exact PySem.EqNone.ne_none_bool (fin_bl I q (by simp))
    | int j => obtain ⟨t', rfl⟩ := ry; exact PySem.EqNone.ne_none_int (fin_bl I q (by simp))
    | str j => obtain ⟨t', rfl⟩ := ry; exact PySem.EqNone.ne_none_str (fin_bl I q (by simp))
    | _ => exact absurd (show false = true from hs) Bool.false_ne_true
  | bl i =>
    cases rx
    cases y with
    | non => cases ry; exact PySem.EqNone.ne_bool_none (fin_bl I q (by simp))
    | bl j => cases ry; exact ne_bool (fin_bl I q (congrArg not dec_bl))
    | str j => obtain ⟨t', rfl⟩ := ry; exact PySem.EqMixed.ne_bool_str (fin_bl I q (by simp))
    | _ => exact absurd (show false = true from hs) Bool.false_ne_true
  | int i =>
    obtain ⟨t, rfl⟩ := rx
    cases y with
    | non => cases ry; exact PySem.EqNone.ne_int_none (fin_bl I q (by simp))
    | int j => obtain ⟨t', rfl⟩ := ry; exact ne_int (fin_bl I q (congrArg not dec_int))
    | str j => obtain ⟨t', rfl⟩ := ry; exact PySem.EqMixed.ne_int_str (fin_bl I q (by simp))
    | _ => exact absurd (show false = true from hs) Bool.false_ne_true
  | str i =>
    obtain ⟨t, rfl⟩ := rx
    cases y with
    | non => cases ry; exact PySem.EqNone.ne_str_none (fin_bl I q (by simp))
    | bl j => cases ry; exact PySem.EqMixed.ne_str_bool (fin_bl I q (by simp))
    | int j => obtain ⟨t', rfl⟩ := ry; exact PySem.EqMixed.ne_str_int (fin_bl I q (by simp))
    | str j => obtain ⟨t', rfl⟩ := ry; exact ne_str (fin_bl I q (congrArg not dec_str))
    | _ => exact absurd (show false = true from hs) Bool.false_ne_true
  | byt i =>
    obtain ⟨t, rfl⟩ := rx
    cases y with
    | byt j => obtain ⟨t', rfl⟩ := ry; exact PySem.W.ne_bytes (fin_bl I q (congrArg not dec_byt))
    | _ => exact absurd (show false = true from hs) Bool.false_ne_true
  | _ => cases y <;> exact absurd (show false = true from hs) Bool.false_ne_true
theorem op_lt : OpR X (compareOp .Lt) (rI0 fun i j => .bl (decide (i < j))) := opB0 fun _ _ _ _ _ _ _ q => lt_int q
theorem op_le : OpR X (compareOp .LtE) (rI0 fun i j => .bl (decide (i ≤ j))) := opB0 fun _ _ _ _ _ _ _ q => le_int q
theorem op_gt : OpR X (compareOp .Gt) (rI0 fun i j => .bl (decide (j < i))) := opB0 fun _ _ _ _ _ _ _ q => gt_int q
theorem op_ge : OpR X (compareOp .GtE) (rI0 fun i j => .bl (decide (j ≤ i))) := opB0 fun _ _ _ _ _ _ _ q => ge_int q
theorem op_lt_str : OpR X (compareOp .Lt) (fun x y H Q => ∃ i j, x = .str i ∧ y = .str j ∧ Q (.bl (decide (i.cps.toList < j.cps.toList))) H) := by
  intro pins s σ H x y v u Q I rx ry h
  obtain ⟨i, j, rfl, rfl, q⟩ := h
  obtain ⟨t, rfl⟩ := rx
  obtain ⟨t', rfl⟩ := ry
  exact lt_str (fin_bl I q rfl)
theorem op_in_str : OpR X (compareOp .In) (fun x y H Q => ∃ i j, x = .str i ∧ y = .str j ∧ Q (.bl (!(Builtin.Str.occurrences j i 0 j.length 1).isEmpty)) H) := by
  intro pins s σ H x y v u Q I rx ry h
  obtain ⟨i, j, rfl, rfl, q⟩ := h
  obtain ⟨t, rfl⟩ := rx
  obtain ⟨t', rfl⟩ := ry
  exact in_str (fin_bl I q rfl)
theorem op_isN : OpR X (compareOp .Is) (fun x y H Q => y = .non ∧ Q (.bl (decide (x = .non))) H) := by
  intro pins s σ H x y v u Q I rx ry h
  obtain ⟨rfl, q⟩ := h
  cases ry
  refine is_none_gen (fin_bl I q ?_)
  cases x <;> first
    | (cases rx; rfl)
    | (obtain ⟨t, rfl⟩ := rx; rfl)
theorem OpR.or {f : Value → Value → Sem Value} {r r' : R2} (h : OpR X f r) (h' : OpR X f r') : OpR X f (fun x y H Q => r x y H Q ∨ r' x y H Q) := by
  intro pins s σ H x y v u Q I rx ry q
  rcases q with q | q
  · exact h pins s σ H x y v u Q I rx ry q
  · exact h' pins s σ H x y v u Q I rx ry q
theorem nomark (b : Expr) {op : CmpOp} (h : op ≠ .In := by decide) (h2 : op ≠ .NotIn := by decide) : behindInMarks op b = false := by
  have e1 : (op == CmpOp.In) = false := by cases op <;> first | rfl | exact absurd rfl h
  have e2 : (op == CmpOp.NotIn) = false := by cases op <;> first | rfl | exact absurd rfl h2
  cases b <;> simp [behindInMarks, e1, e2]
theorem pe_cmpR {op : CmpOp} {r : R2} (ho : OpR X (compareOp op) r) (ha : PE X a ta) (hb : PE X b tb) (hm : behindInMarks op b = false) : PE X (.Compare a [op] [b] pos) (tOp r ta tb) := by
  intro pins s σ H Q I h
  exact wpAny_Compare1 (binT ha hb I h fun v u s2 x y H2 I2 rx ry q => ho pins s2 σ H2 x y v u Q I2 rx ry q) hm
def tTest (t : TE) : TT := fun σ H Q => t σ H fun x H' => ∃ k, x = .bl k ∧ Q k H'
theorem pt_cmpR {op : CmpOp} {r : R2} (ho : OpR X (compareOp op) r) (ha : PE X a ta) (hb : PE X b tb) (hm : behindInMarks op b = false) : PT X (.Compare a [op] [b] pos) (tTest (tOp r ta tb)) := by
  intro pins s σ H Q I h
  refine wpAny_isTrue_Compare1 (thn (ha pins s σ H _ I h) fun v s1 ⟨x, H1, I1, r1, q1⟩ => thn (hb pins s1 σ H1 _ I1 q1) fun u s2 ⟨y, H2, I2, r2, q2⟩ =>
    thn (ho pins s2 σ H2 x y v u _ I2 r1 r2 q2) fun c s3 ⟨z, H3, I3, r3, k, e, q3⟩ => ?_) hm
  subst e
  cases r3
  exact wpAny_truthy_bool ⟨H3, I3, q3⟩
def TruV (K : PySem.W.Frag) (x : V) (H : Hp) (k : Bool) : Prop :=
  match x with
  | .non => k = false
  | .bl b => k = b
  | .int i => k = (i != 0)
  | .str y => y.length ≤ sizeLine ∧ k = ((y.length : Int) != 0)
  | .byt y => y.size ≤ sizeLine ∧ k = ((y.size : Int) != 0)
  | .ref p => (∃ xs, SqL K H p xs ∧ k = !xs.isEmpty) ∨ (∃ xs, SqT K H p xs ∧ k = !xs.isEmpty) ∨ ∃ kvs, H p = some (.dK kvs) ∧ k = !kvs.isEmpty
  | _ => False
theorem isEmpty_kv {κ : Type} {kvs : List (κ × V)} {vs : List (κ × Value)} (r : KV kvs vs) : (!vs.isEmpty) = !kvs.isEmpty := by
  cases r <;> rfl
theorem isEmpty_of {xs : List V} {its : List Value} (r : Vals xs its) : (!its.toArray.isEmpty) = !xs.isEmpty := by
  cases r <;> simp
theorem line63 : (sizeLine : Nat) < 2 ^ 63 := by rw [sizeLine_eq]; decide
theorem tru_ok : TruR X (fun x H Q => ∃ k, TruV X.K x H k ∧ Q k H) := by
  intro pins s σ H x v Q I rx h
  obtain ⟨k, e, q⟩ := h
  have hl := line63
  have hs : sizeLine = 16777216 := sizeLine_eq
  cases x with
  | non =>
    cases rx
    have e' : k = false := e
    subst e'
    exact truthy_none ⟨H, I, q⟩
  | bl b =>
    cases rx
    have e' : k = b := e
    subst e'
    exact wpAny_truthy_bool ⟨H, I, q⟩
  | int i =>
    obtain ⟨t, rfl⟩ := rx
    have e' : k = (i != 0) := e
    subst e'
    exact PySem.P.truthy_int ⟨H, I, q⟩
  | str y =>
    obtain ⟨t, rfl⟩ := rx
    obtain ⟨hy, e'⟩ : y.length ≤ sizeLine ∧ k = ((y.length : Int) != 0) := e
    subst e'
    exact PySem.P.truthy_str (by omega) ⟨H, I.tok _, q⟩
  | byt y =>
    obtain ⟨t, rfl⟩ := rx
    obtain ⟨hy, e'⟩ : y.size ≤ sizeLine ∧ k = ((y.size : Int) != 0) := e
    subst e'
    exact PySem.W.truthy_bytes (by omega) ⟨H, I.tok _, q⟩
  | ref p =>
    cases rx
    have e' : (∃ xs, SqL X.K H p xs ∧ k = !xs.isEmpty) ∨ (∃ xs, SqT X.K H p xs ∧ k = !xs.isEmpty) ∨ ∃ kvs, H p = some (.dK kvs) ∧ k = !kvs.isEmpty := e
    rcases e' with ⟨xs, hx, e'⟩ | ⟨xs, hx, e'⟩ | ⟨kvs, hx, e'⟩
    · subst e'
      obtain ⟨its, r, pl, hz⟩ := I.list hx
      have hlen := r.length
      exact wpAny_truthy_list pl.isList (by simp only [List.size_toArray]; omega) ⟨H, I.tok _, by rw [isEmpty_of r]; exact q⟩
    · subst e'
      obtain ⟨its, r, pl, hz⟩ := I.tuple hx
      have hlen := r.length
      exact truthy_tuple pl (by simp only [List.size_toArray]; omega) ⟨H, I.tok _, by rw [isEmpty_of r]; exact q⟩
    · subst e'
      obtain ⟨hz, hS, vs, r, m⟩ : kvs.length ≤ sizeLine ∧ (p == sysModules) = false ∧ ∃ vs, KV kvs vs ∧ s.heap.DictOf (mixKind X.prog X.w) p vs := I.hok p _ hx
      have hlen : kvs.length = vs.length := Paired.length r
      exact wpAny_truthy_dict hS m (by omega) ⟨H, I.tok _, by rw [isEmpty_kv r]; exact q⟩
  | _ => exact (show False from e).elim
theorem op_add_str : OpR X (binaryOp .Add) (fun x y H Q => ∃ i j, x = .str i ∧ y = .str j ∧ i.length + j.length ≤ sizeLine ∧ Q (.str (i ++ j)) H) := by
  intro pins s σ H x y v u Q I rx ry h
  obtain ⟨i, j, rfl, rfl, hz, q⟩ := h
  obtain ⟨t, rfl⟩ := rx
  obtain ⟨t', rfl⟩ := ry
  exact add_str (fun t' tk => ⟨.str (i ++ j), H, I.tok _, ⟨_, rfl⟩, q⟩) hz
theorem vals1 {x : V} {us : List Value} (r : Vals [x] us) : ∃ u, us = [u] ∧ RelV x u := by
  cases r with
  | cons r1 r2 => cases r2; exact ⟨_, rfl, r1⟩
theorem vals2 {x y : V} {us : List Value} (r : Vals [x, y] us) : ∃ u w', us = [u, w'] ∧ RelV x u ∧ RelV y w' := by
  cases r with
  | cons r1 r2 =>
    cases r2 with
    | cons r3 r4 => cases r4; exact ⟨_, _, rfl, r1, r3⟩
theorem call_max2 (hc : X.calm = true) : CallR X (.builtin "max") (fun xs H Q => ∃ i j, xs = [.int i, .int j] ∧ Q (.int (if j > i then j else i)) H) := by
  intro pins s σ H xs us Q I r h
  obtain ⟨i, j, rfl, q⟩ := h
  obtain ⟨u, w', rfl, ⟨t, rfl⟩, ⟨t', rfl⟩⟩ := vals2 r
  refine max_two_ints (I.ok.hd hc) fun h' tk k => ⟨_, H, I.kept k, ?_, q⟩
  by_cases hj : j > i
  · rw [if_pos hj, if_pos hj]; exact ⟨_, rfl⟩
  · rw [if_neg hj, if_neg hj]; exact ⟨_, rfl⟩
theorem call_min2 (hc : X.calm = true) : CallR X (.builtin "min") (fun xs H Q => ∃ i j, xs = [.int i, .int j] ∧ Q (.int (if j < i then j else i)) H) := by
  intro pins s σ H xs us Q I r h
  obtain ⟨i, j, rfl, q⟩ := h
  obtain ⟨u, w', rfl, ⟨t, rfl⟩, ⟨t', rfl⟩⟩ := vals2 r
  refine min_two_ints (I.ok.hd hc) fun h' tk k => ⟨_, H, I.kept k, ?_, q⟩
  by_cases hj : j < i
  · rw [if_pos hj, if_pos hj]; exact ⟨_, rfl⟩
  · rw [if_neg hj, if_neg hj]; exact ⟨_, rfl⟩
theorem call_int1 : CallR X (.type "int") (fun xs H Q => (∃ i, xs = [.int i] ∧ Q (.int i) H) ∨ ∃ k, xs = [.bl k] ∧ Q (.int (if k then 1 else 0)) H) := by
  intro pins s σ H xs us Q I r h
  rcases h with ⟨i, rfl, q⟩ | ⟨k, rfl, q⟩
  · obtain ⟨u, rfl, t, rfl⟩ := vals1 r
    exact call_int_int ⟨.int i, H, I, ⟨_, rfl⟩, q⟩
  · obtain ⟨u, rfl, r1⟩ := vals1 r
    cases r1
    exact call_int_bool ⟨.int (if k then 1 else 0), H, I.tok _, ⟨_, rfl⟩, q⟩
end
end L2
namespace L2
open PySem PySem.Spec PyProof.Rows
structure ObjM (h : Heap) (x dx C : Addr) (mA : Str → Option Value) : Prop where
  obj : h.get? x = some (PySem.W.instObj C dx)
  ns : h.Ns1 dx mA
  ne : dx ≠ x
theorem lookIn_ns {h : Heap} {dx : Addr} {mA : Str → Option Value} (n : h.Ns1 dx mA) : ∃ od, h.get? dx = some od ∧ ∀ name, PySem.W.lookIn name od = some (mA name) := by
  obtain ⟨o, es, ep, ho, hd, hk, _, hm⟩ := n
  refine ⟨o, ho, fun name => ?_⟩
  have e := hm name
  unfold nsFind findBy at e
  rw [← Array.find?_toList] at e
  unfold PySem.W.lookIn
  rw [hd]
  dsimp only
  split
  · rename_i y q
    rw [q] at e
    exact congrArg some e
  · rename_i q
    rw [q] at e
    have a : es.toList.any (·.refKey) = false := by
      rw [List.any_eq_false]
      intro y hy
      obtain ⟨z, t, hkey⟩ := hk y (Array.mem_toList_iff.mp hy)
      simp [DictEntry.refKey, hkey]
    have a' : ¬ es.toList.any (·.refKey) = true := by rw [a]; exact Bool.false_ne_true
    rw [if_neg a']
    exact congrArg some e
theorem ObjM.look {h : Heap} {x dx C : Addr} {mA : Str → Option Value} (I : ObjM h x dx C mA) : ∃ od, PySem.W.InstAt h x (PySem.W.instObj C dx) C (some od) ∧ ∀ name, PySem.W.lookIn name od = some (mA name) :=
  let ⟨od, ho, hl⟩ := lookIn_ns I.ns
  ⟨od, ⟨I.obj, rfl, rfl, ho⟩, hl⟩
section
variable {prog : Program} {w : World} {A : Around} {E : Value → Shared → Prop} {s : Shared} {K : PySem.W.Frag} {x dx C f : Addr} {mA : Str → Option Value} {name : Str} {v : Value}
end
theorem RelO.some_of {v : V} {o : Option Value} (r : RelO (some v) o) : ∃ u, o = some u ∧ RelV v u := by
  cases o with
  | none => exact (show False from r).elim
  | some u => exact ⟨u, rfl, r⟩
theorem RelO.none_of {o : Option Value} (r : RelO none o) : o = none := by
  cases o with
  | none => rfl
  | some u => exact (show False from r).elim
section
variable {P : Program} {w : World} {H H' : Hp} {h h' : Heap} {a C dx : Addr} {fs fs' : List (Str × V)}
theorem ins_get (hok : HOk P w H h) (e : H a = some (.ins C dx fs)) : ∃ mA, ObjM h a dx C mA ∧ (∀ f, RelO (fs.lookup f) (mA f)) ∧ PySem.Within mA (fs.map (·.1)) ∧ fs.length ≤ 1000 ∧ H dx = some (.own a) := by
  obtain ⟨d, z, ne, ob, mA, n, r, q⟩ := (show ObjOk P w H h a (.ins C dx fs) from hok a _ e)
  exact ⟨mA, ⟨ob, n, ne⟩, r, q, z, d⟩
end
structure Cls (K : PySem.W.Frag) (C : Addr) : Prop where
  pg : PySem.W.plainGet K C Str.empty = true
  hd : PySem.W.hasDictIn K C = true
  po : PySem.W.plainOver K C = true
  sa : PySem.W.findIn K (.ref C) "__setattr__" = some (some (.builtin "object.__setattr__"))
theorem Cls.get {K : PySem.W.Frag} {C : Addr} (c : Cls K C) (f : Str) : PySem.W.plainGet K C f = true := c.pg
structure Con (K : PySem.W.Frag) (C : Addr) (f : Str) (v : V) (u : Value) : Prop where
  at_ : PySem.W.findIn K (.ref C) f = some (some u)
  rel : RelV v u
  get : PySem.W.specialIn K u "__get__" = some none
  cp : PySem.W.copiedNames.contains f = false
structure Meth (K : PySem.W.Frag) (C : Addr) (m : Str) (f : Addr) : Prop where
  at_ : PySem.W.findIn K (.ref C) m = some (some (.ref f))
  fn : PySem.W.isFn K (.ref f) = true
  kp : PySem.W.keepIn K (.ref f) = true
section
variable {X : Cx} {pins : List (Addr × Obj)} {σ : St} {H : Hp} {s : Shared} {a C dx : Addr} {fs : List (Str × V)} {f : Str} {v : V} {A : Around} {E : Value → Shared → Prop}
theorem Inv.made (I : Inv X pins σ H s) : Inv X pins σ (upd (upd H s.heap.objs.size (.own (s.heap.objs.size + 1))) (s.heap.objs.size + 1) (.ins C s.heap.objs.size []))
    { s with heap := (s.heap.push PySem.W.emptyDict).push (PySem.W.instObj C s.heap.objs.size) } := by
  have e1 : (s.heap.push PySem.W.emptyDict).get? s.heap.objs.size = some PySem.W.emptyDict := Heap.get?_push_size s.heap rfl
  have e2 : ((s.heap.push PySem.W.emptyDict).push (PySem.W.instObj C s.heap.objs.size)).get? (s.heap.objs.size + 1) = some (PySem.W.instObj C s.heap.objs.size) := by
    have := Heap.get?_push_size (s.heap.push PySem.W.emptyDict) (o := PySem.W.instObj C s.heap.objs.size) rfl
    rwa [Heap.size_push] at this
  have e3 : (s.heap.push PySem.W.emptyDict).Ns s.heap.objs.size (fun _ => none) := ⟨PySem.W.emptyDict, #[], _, e1, rfl, (fun e he => absurd he (by simp)), fun _ => rfl⟩
  have I1 := I.laid (a := s.heap.objs.size) (o := .own (s.heap.objs.size + 1)) (h' := s.heap.push PySem.W.emptyDict) (t' := s.toks) (fun b u q => Heap.get?_push_of_some _ q) (Nat.le_refl _) ⟨_, e1⟩
  refine I1.laid (a := s.heap.objs.size + 1) (o := .ins C s.heap.objs.size []) (t' := s.toks) (fun b u q => Heap.get?_push_of_some _ q) (Nat.le_of_eq (Heap.size_push _ _)) ?_
  have ne : s.heap.objs.size ≠ s.heap.objs.size + 1 := Nat.ne_of_lt (Nat.lt_succ_self _)
  refine ⟨by rw [upd_ne ne, upd_same], Nat.zero_le _, ne, e2, fun _ => none, (Heap.Ns1.of_empty e3).at fun o q => Heap.get?_push_of_some _ q, fun _ => True.intro, fun y hy => absurd rfl hy⟩
end
section
variable {X : Cx} {o e value : Expr} {f : Str} {pos pos' tpos : Pos} {ta tv : TE}
end
section
variable {X : Cx} {pins : List (Addr × Obj)} {σ : St} {H : Hp} {s : Shared} {A : Around} {E : Value → Shared → Prop} {Q : Value → Shared → Prop} {c : Value} {b : Bool}
inductive TyOf (K : PySem.W.Frag) (H : Hp) : V → Value → Prop where
  | non : TyOf K H .non (.type "NoneType")
  | bl (x : Bool) : TyOf K H (.bl x) (.type "bool")
  | int (i : Int) : TyOf K H (.int i) (.type "int")
  | str (x : Str) : TyOf K H (.str x) (.type "str")
  | flt (x : UInt64) : TyOf K H (.flt x) (.type "float")
  | lst {a : Addr} {xs : List V} (e : H a = some (.lst xs)) : TyOf K H (.ref a) (.type "list")
  | frz {a : Addr} {o : Obj} {xs : List V} (e : H a = some (.frz o (.lst xs))) : TyOf K H (.ref a) (.type "list")
  | tup {a : Addr} {xs : List V} (e : H a = some (.tup xs)) : TyOf K H (.ref a) (.type "tuple")
  | dK {a : Addr} {kvs : List (Key × V)} (e : H a = some (.dK kvs)) : TyOf K H (.ref a) (.type "dict")
  | dT {a : Addr} {kvs : List (List Key × V)} (e : H a = some (.dT kvs)) : TyOf K H (.ref a) (.type "dict")
  | ins {a C dx : Addr} {fs : List (Str × V)} (e : H a = some (.ins C dx fs)) (cl : Cls K C) (ha : PySem.W.findIn K (.ref C) "__class__" = some (some (.builtin "object.__class__")))
      (hn : PySem.W.specialIn K (.builtin "object.__class__") "__get__" = some (some (.builtin "getset_descriptor.__get__"))) (htk : PySem.W.takesIn K (.builtin "object.__class__") = some true)
      (hm : PySem.W.mroIn K C (.type "object") = some true) : TyOf K H (.ref a) (.ref C)
theorem isinst_ok {x : V} {u t : Value} (I : Inv X pins σ H s) (rx : RelV x u) (ty : TyOf X.K H x t) (e : PySem.W.kitOne X.K t c = some b) (h : ∀ tk, Q (.bool b) { s with toks := tk }) :
    wpAny (model X.prog X.w) A (call (.builtin "isinstance") [u, c]) Q E s := by
  cases ty with
  | non => cases (show u = Value.none from rx); exact PySem.W.kia_one PySem.W.kitx_none I.kIn True.intro e (fun z => nomatch z) h
  | bl y => cases (show u = Value.bool y from rx); exact PySem.W.kia_one PySem.W.kitx_bool I.kIn True.intro e (fun z => nomatch z) h
  | int i => obtain ⟨t, q⟩ := (show ∃ t, u = Value.int i t from rx); cases q; exact PySem.W.kia_one PySem.W.kitx_int I.kIn True.intro e (fun z => nomatch z) h
  | str y => obtain ⟨t, q⟩ := (show ∃ t, u = Value.str y t from rx); cases q; exact PySem.W.kia_one PySem.W.kitx_str I.kIn True.intro e (fun z => nomatch z) h
  | flt y => obtain ⟨t, q⟩ := (show ∃ t, u = Value.float y t from rx); cases q; exact PySem.W.kia_one PySem.W.kitx_float I.kIn True.intro e (fun z => nomatch z) h
  | @lst a xs ea =>
    cases (show u = Value.ref a from rx)
    obtain ⟨_, _, n, _, h1⟩ := (show ObjOk X.prog X.w H s.heap a (.lst xs) from I.hok a _ ea)
    exact PySem.W.kia_one PySem.W.kitx_list I.kIn ⟨_, h1, rfl⟩ e (fun z => nomatch z) h
  | @frz a ob xs ea =>
    cases (show u = Value.ref a from rx)
    obtain ⟨_, _, _, n, _, h1⟩ := (show ObjOk X.prog X.w H s.heap a (.frz ob (.lst xs)) from I.hok a _ ea)
    exact PySem.W.kia_one PySem.W.kitx_list I.kIn ⟨_, h1, rfl⟩ e (fun z => nomatch z) h
  | @tup a xs ea =>
    cases (show u = Value.ref a from rx)
    obtain ⟨_, _, _, p⟩ := (show ObjOk X.prog X.w H s.heap a (.tup xs) from I.hok a _ ea)
    obtain ⟨o, h1, h2, _⟩ := p
    exact PySem.W.kia_one PySem.W.kitx_tuple I.kIn ⟨o, h1, h2⟩ e (fun z => nomatch z) h
  | @dK a kvs ea =>
    cases (show u = Value.ref a from rx)
    obtain ⟨_, _, vs, _, p⟩ := (show ObjOk X.prog X.w H s.heap a (.dK kvs) from I.hok a _ ea)
    obtain ⟨o, es, ep, h1, h2, _⟩ := p
    exact PySem.W.kia_one PySem.W.kitx_dict I.kIn ⟨o, h1, h2.1⟩ e (fun z => nomatch z) h
  | @dT a kvs ea =>
    cases (show u = Value.ref a from rx)
    obtain ⟨_, _, xs, _, o, es, ep, h1, h2, _⟩ := (show ObjOk X.prog X.w H s.heap a (.dT kvs) from I.hok a _ ea)
    exact PySem.W.kia_one PySem.W.kitx_dict I.kIn ⟨o, h1, h2.1⟩ e (fun z => nomatch z) h
  | @ins a C dx fs ea cl ha hn htk hm =>
    cases (show u = Value.ref a from rx)
    obtain ⟨mA, O, _⟩ := ins_get I.hok ea
    obtain ⟨od, J, _⟩ := O.look
    exact PySem.W.kia_one (PySem.W.kitx_own (cl.get _) cl.hd ha hn htk hm) I.kIn J e (fun z => nomatch z) h
end
end L2
namespace L2
open PySem PySem.Spec PyProof.Rows
structure Room (k : Nat) (A : Around) : Prop where
  hd : A.handled = none
  dp : A.depth + 3 * k + 5 < recursionLimit
  un : A.units + 16 * k + 200 < cLine
  gd : A.guards = some []
theorem Room.mono {j k : Nat} {A : Around} (r : Room k A) (h : j ≤ k) : Room j A := ⟨r.hd, by have := r.dp; omega, by have := r.un; omega, r.gd⟩
theorem Room.deeper {k : Nat} {A : Around} (r : Room (k + 1) A) (env : Env) : Room k (A.deeper env) :=
  ⟨r.hd, by have := r.dp; show A.depth + 1 + 3 * k + 5 < _; omega, by have := r.un; show A.units + 3 + 16 * k + 200 < _; omega, r.gd⟩
theorem Room.in1 {k : Nat} {A : Around} (r : Room (k + 1) A) : Room k A.in1 :=
  ⟨r.hd, by have := r.dp; show A.depth + 3 * k + 5 < _; omega, by have := r.un; show A.units + 1 + 16 * k + 200 < _; omega, r.gd⟩
theorem make_depth {A : Around} {C : Addr} {us : List Value} {kw : List (Str × Value)} : (A.under (.builtin "type.__call__" ⟨.ref C :: us, kw⟩)).depth = A.depth + 1 := by
  first | rfl | simp [Around.under, Code.weight, Code.isCreation, Code.isGuard, Code.isCaller, Code.frames, Code.isFrame, guardIds]
theorem make_units {A : Around} {C : Addr} {us : List Value} {kw : List (Str × Value)} : (A.under (.builtin "type.__call__" ⟨.ref C :: us, kw⟩)).units = A.units + 1 := by
  first | rfl | simp [Around.under, Code.cUnits, Code.frames, Code.isFrame]
theorem make_guards {A : Around} {C : Addr} {us : List Value} {kw : List (Str × Value)} : (A.under (.builtin "type.__call__" ⟨.ref C :: us, kw⟩)).guards = A.guards := by
  first | rfl | simp [Around.under, Code.guards, Code.isGuard, guardIds, pushGuards]
theorem Room.make {k : Nat} {A : Around} (r : Room (k + 1) A) (C : Addr) (us : List Value) (kw : List (Str × Value)) : Room k (A.under (.builtin "type.__call__" ⟨.ref C :: us, kw⟩)) :=
  ⟨r.hd, by have := r.dp; rw [make_depth]; omega, by have := r.un; rw [make_units]; omega, by rw [make_guards]; exact r.gd⟩
theorem Room.depth {k : Nat} {A : Around} (r : Room k A) : A.depth < recursionLimit := by have := r.dp; omega
theorem Room.units {k : Nat} {A : Around} (r : Room k A) : A.units + 64 < cLine := by have := r.un; omega
def tNil : TA := fun _ H Q => Q [] H
def tCons (ta : TE) (tr : TA) : TA := fun σ H Q => ta σ H fun x H1 => tr σ H1 fun xs H2 => Q (x :: xs) H2
section
variable {X : Cx} {e : Expr} {es : List Expr} {te : TE} {t : TA} {pos : Pos}
theorem pa_nil : PA X [] tNil := fun _ _ _ _ H Q I h => Calls.spliced_nil ⟨[], H, I, .nil, h⟩
theorem pa_cons (ha : PE X e te) (hr : PA X es t) (hs : starEach (e :: es) X.env = (false, eval e X.env) :: starEach es X.env := by rfl) : PA X (e :: es) (tCons te t) := by
  intro pos pins s σ H Q I h
  rw [hs]
  show wpAny _ _ (spliced ((false, eval e X.env) :: backTo pos (starEach es X.env))) _ _ s
  refine Calls.spliced_cons (thn (ha pins s σ H _ I h) fun u s1 ⟨x, H1, I1, r1, q1⟩ => ?_)
  exact thn (hr pos pins s1 σ H1 _ I1 q1) fun us s2 ⟨xs, H2, I2, r2, q2⟩ => ⟨x :: xs, H2, I2, .cons r1 r2, q2⟩
def tTup (t : TA) : TE := fun σ H Q => t σ H fun xs H1 => xs.length ≤ sizeLine ∧ ∀ p, H1 p = none → Q (.ref p) (upd H1 p (.tup xs))
def tLst (t : TA) : TE := fun σ H Q => t σ H fun xs H1 => xs.length ≤ sizeLine ∧ ∀ p, H1 p = none → Q (.ref p) (upd H1 p (.lst xs))
theorem pe_tup {x1} (h : PA X es t) : PE X (.Tuple es x1 pos) (tTup t) := by
  intro pins s σ H Q I hq
  refine wpAny_Tuple_spliced (thn (h pos pins s σ H _ I hq) fun us s1 ⟨xs, H1, I1, r, z, q⟩ => ⟨by rw [← r.length]; exact z, ?_⟩)
  have hf : H1 s1.heap.objs.size = none := I1.hok.fresh (Nat.le_refl _)
  refine ⟨.ref s1.heap.objs.size, upd H1 s1.heap.objs.size (.tup xs), I1.laid (t' := s1.toks) (fun b u e => Heap.get?_push_of_some _ e) (Nat.le_refl _) ?_, rfl, q _ hf⟩
  exact ⟨z, us, r, ⟨_, Heap.get?_push_size _ rfl, rfl, _, rfl⟩⟩
theorem pe_lst (h : PA X es t) : PE X (.List es pos) (tLst t) := by
  intro pins s σ H Q I hq
  refine wpAny_List_spliced (thn (h pos pins s σ H _ I hq) fun us s1 ⟨xs, H1, I1, r, z, q⟩ => ⟨by rw [← r.length]; exact z, ?_⟩)
  have hf : H1 s1.heap.objs.size = none := I1.hok.fresh (Nat.le_refl _)
  refine ⟨.ref s1.heap.objs.size, upd H1 s1.heap.objs.size (.lst xs), I1.laid (t' := s1.toks) (fun b u e => Heap.get?_push_of_some _ e) (Nat.le_refl _) ?_, rfl, q _ hf⟩
  exact ⟨z, us, 0, r, Heap.get?_push_size _ rfl⟩
end
abbrev Sp := List V → Hp → VK → XK → Prop
abbrev CXT := List Env → Hp → Shared → XK → Value → Shared → Prop
structure Env0 (P : Program) (w : World) (K : PySem.W.Frag) (mg : Str → Option Value) (base : Heap) (A : Around) (outer : List Env) (s : Shared) (H : Hp) : Prop where
  frames : A.frames = some outer
  mod : Mod K mg base
  bs : ∀ b o, base.get? b = some o → s.heap.get? b = some o ∧ H b = none
  bsz : base.objs.size ≤ s.heap.objs.size
  funs : s.heap.FunFrames base outer
  frf : ∀ b ∈ frs outer, H b = none
  hok : HOk P w H s.heap
  bare : AllBare s.gens
def CE (outer : List Env) (P : Program) (w : World) (H : Hp) (s : Shared) (Q : VK) (u : Value) (s' : Shared) : Prop :=
  ∃ v H', s'.os = s.os ∧ AllBare s'.gens ∧ Un (frs outer) [] H H' s.heap s'.heap ∧ HOk P w H' s'.heap ∧ RelV v u ∧ Q v H'
def CR (CX : CXT) (outer : List Env) (P : Program) (w : World) (H : Hp) (s : Shared) (Q : VK) (E : XK) (r : Result) (s' : Shared) : Prop :=
  match r with
  | .ok (.ret u) => CE outer P w H s Q u s'
  | .ok _ => False
  | .error e => CX outer H s E e s'
structure FnOk (P : Program) (w : World) (K : PySem.W.Frag) (mg : Str → Option Value) (base : Heap) (CX : CXT) (k : Nat) (f : Addr) (fd : FuncData) (ps : List Str) (sp : Sp) : Prop where
  len : ∀ vs H Q E, sp vs H Q E → vs.length = ps.length
  run : ∀ (A : Around) (outer : List Env) (s : Shared) (H : Hp) (args : Args) (us : List Value) (vs : List V) (Q : VK) (E : XK), Room k A → Env0 P w K mg base A outer s H → BindsTo s fd args (ps.zip us) → Vals vs us → sp vs H Q E →
    codeAny (model P w) A (.call (.ref f) args) (CR CX outer P w H s Q E) s
theorem FnOk.mono {P : Program} {w : World} {K : PySem.W.Frag} {mg : Str → Option Value} {base : Heap} {CX : CXT} {j k : Nat} {f : Addr} {fd : FuncData} {ps : List Str} {sp : Sp} (F : FnOk P w K mg base CX j f fd ps sp) (h : j ≤ k) :
    FnOk P w K mg base CX k f fd ps sp := ⟨F.len, fun A outer s H args us vs Q E hr => F.run A outer s H args us vs Q E (hr.mono h)⟩
theorem FnOk.imp {P : Program} {w : World} {K : PySem.W.Frag} {mg : Str → Option Value} {base : Heap} {CX : CXT} {k : Nat} {f : Addr} {fd : FuncData} {ps : List Str} {sp sp' : Sp} (F : FnOk P w K mg base CX k f fd ps sp)
    (h : ∀ vs H Q E, sp' vs H Q E → sp vs H Q E) : FnOk P w K mg base CX k f fd ps sp' :=
  ⟨fun vs H Q E q => F.len vs H Q E (h _ _ _ _ q), fun A outer s H args us vs Q E hr he hb hv hs => F.run A outer s H args us vs Q E hr he hb hv (h _ _ _ _ hs)⟩
theorem Env0.make {P : Program} {w : World} {K : PySem.W.Frag} {mg : Str → Option Value} {base : Heap} {A : Around} {outer : List Env} {s : Shared} {H : Hp} (e : Env0 P w K mg base A outer s H) (C : Addr) (us : List Value) (kw : List (Str × Value)) :
    Env0 P w K mg base (A.under (.builtin "type.__call__" ⟨.ref C :: us, kw⟩)) outer s H := ⟨by first | exact e.frames | (simpa [Around.under, Code.envs, Code.isFrame, pushEnvs] using e.frames), e.mod, e.bs, e.bsz, e.funs, e.frf, e.hok, e.bare⟩
theorem Env0.in1 {P : Program} {w : World} {K : PySem.W.Frag} {mg : Str → Option Value} {base : Heap} {A : Around} {outer : List Env} {s : Shared} {H : Hp} (e : Env0 P w K mg base A outer s H) :
    Env0 P w K mg base A.in1 outer s H := ⟨e.frames, e.mod, e.bs, e.bsz, e.funs, e.frf, e.hok, e.bare⟩
section
variable {X : Cx} {pins : List (Addr × Obj)} {σ : St} {H : Hp} {s s' : Shared}
theorem Inv.env0 (I : Inv X pins σ H s) : Env0 X.prog X.w X.K X.mg X.base X.A X.stack s H :=
  ⟨I.ok.frames, I.ok.mod, I.bs, Nat.le_trans I.ok.bsz I.sz, I.stack, I.stkFree, I.hok, I.bare⟩
theorem Inv.after {Q : VK} {u : Value} (I : Inv X pins σ H s) (h : CE X.stack X.prog X.w H s Q u s') : EP X pins σ Q u s' := by
  obtain ⟨v, H', os, bare, un, hok, r, q⟩ := h
  obtain ⟨hh, g, d, t, os'⟩ := s'
  obtain rfl : os' = s.os := os
  exact ⟨v, H', I.call (h' := hh) (g' := g) (d' := d) (t' := t) (ch := []) un hok bare (fun b z => absurd z (by simp)), r, q⟩
end
def tCall (sp : Sp) (dvs : List V) (E : XK) (t : TA) : TE := fun σ H Q => t σ H fun vs H1 => sp (vs ++ dvs) H1 Q E
def Binds (K : PySem.W.Frag) (fd : FuncData) (ps : List Str) (ds : List Value) : Prop :=
  ∀ (s : Shared) (us : List Value), K.In s.heap → (us ++ ds).length = ps.length → BindsTo s fd ⟨us, []⟩ (ps.zip (us ++ ds))
theorem Binds.all {K : PySem.W.Frag} {fd : FuncData} {ps : List Str} (h : ∀ us : List Value, us.length = ps.length → bindArgs fd ⟨us, []⟩ = pure (ps.zip us)) : Binds K fd ps [] := fun s us _ hl => by
  rw [List.append_nil] at hl ⊢
  exact .of_eq (h us hl)
def Passes (CX : CXT) (X : Cx) (E : XK) : Prop := ∀ (pins : List (Addr × Obj)) (σ : St) (H : Hp) (s : Shared) (e : Value) (s' : Shared), Inv X pins σ H s → CX X.stack H s E e s' → X.xe e s'
section
variable {X : Cx} {CX : CXT} {k : Nat} {f C : Addr} {fd : FuncData} {ps : List Str} {sp : Sp} {dvs : List V} {ds : List Value} {E : XK} {x m : Str} {p pos apos : Pos} {e o : Expr} {es : List Expr} {ta : TE} {t : TA}
theorem run_fn {pins : List (Addr × Obj)} {σ : St} {H : Hp} {s : Shared} {Q : VK} {us : List Value} {vs : List V} (F : FnOk X.prog X.w X.K X.mg X.base CX k f fd ps sp) (hr : Room k X.A) (hb : Binds X.K fd ps ds) (hd : Vals dvs ds) (hx : Passes CX X E)
    (I : Inv X pins σ H s) (r : Vals vs us) (h : sp (vs ++ dvs) H Q E) : wpAny (model X.prog X.w) X.A (call (.ref f) us) (EP X pins σ Q) X.xe s := by
  have r2 : Vals (vs ++ dvs) (us ++ ds) := r.append hd
  have hl : (us ++ ds).length = ps.length := by rw [← r2.length]; exact F.len _ _ _ _ h
  refine wpAny_call (codeAny_mono (F.run X.A X.stack s H ⟨us, []⟩ (us ++ ds) (vs ++ dvs) Q E hr I.env0 (hb s us I.kIn hl) r2 h) fun r s' hq => ?_)
  cases r with
  | error e => exact hx pins σ H s e s' I hq
  | ok fl =>
    cases fl with
    | ret u => exact I.after hq
    | next => exact False.elim hq
    | brk => exact False.elim hq
    | cont => exact False.elim hq
theorem pe_call (F : FnOk X.prog X.w X.K X.mg X.base CX k f fd ps sp) (hr : Room k X.A) (hg : Gl X x) (hm : X.mg x = some (.ref f)) (hk : PySem.W.keepIn X.K (.ref f) = true) (hb : Binds X.K fd ps ds) (hd : Vals dvs ds) (hx : Passes CX X E)
    (ha : PA X (e :: es) t) (hdb : (x == ("__debug__" : Str)) = false := by decide) (he : starEach (e :: es) X.env = (false, eval e X.env) :: starEach es X.env := by rfl) (hpl : (backTo pos (starEach es X.env)).any (·.1) = false := by rfl) :
    PE X (.Call (.Name x p) (e :: es) [] pos) (tCall sp dvs E t) := by
  intro pins s σ H Q I h
  refine wpAny_Call_Name_kw (ld_glob I hg hm ?_ hdb)
  refine PySem.W.callWith_K (h₀ := X.base) I.ok.mod.kin hk (thn (ha pos pins s σ H _ I h) fun us s1 ⟨vs, H1, I1, r, q⟩ => ⟨I1.kIn, ?_⟩) he hpl
  exact run_fn F hr hb hd hx I1 r q
structure Mk (K : PySem.W.Frag) (C f : Addr) : Prop where
  makes : PySem.W.makesIn K C = true
  init : PySem.W.findIn K (.ref C) "__init__" = some (some (.ref f))
  fn : PySem.W.isFn K (.ref f) = true
  kp : PySem.W.keepIn K (.ref C) = true
end
section
variable {X : Cx} {CX : CXT} {k : Nat} {f C : Addr} {fd : FuncData} {ps ks : List Str} {sp : Sp} {E : XK} {x m : Str} {p pos apos kpos : Pos} {e o : Expr} {es : List Expr} {kws : List Keyword} {te ta : TE} {t tk : TA} {nm : Option Str}
structure KBinds (K : PySem.W.Frag) (fd : FuncData) (ps ks : List Str) (g : List Value → List Value → List Value) (gV : List V → List V → List V) : Prop where
  to : ∀ (s : Shared) (us ws : List Value), K.In s.heap → (g us ws).length = ps.length → BindsTo s fd ⟨us, ks.zip ws⟩ (ps.zip (g us ws))
  rel : ∀ {vs : List V} {us : List Value} {zs : List V} {ws : List Value}, Vals vs us → Vals zs ws → Vals (gV vs zs) (g us ws)
variable {g : List Value → List Value → List Value} {gV : List V → List V → List V}
end
structure FnScope (N P : List Str) (sc : Scope) : Prop where
  kind : sc.kind = .function
  co : sc.isCoroutine = false
  gen : sc.isGenerator = false
  nd : N.Nodup
  pre : N.take P.length = P
  par : ∀ x ∈ P, sc.names.lookup x = some .local ∨ sc.names.lookup x = some .cell
  nofree : ∀ y ∈ sc.names, y.2 ≠ .free
theorem bindL_out {kindOf : Str → Option NameKind} {x : Str} : ∀ {binds : List (Str × Value)} {m : Str → Option Value}, (∀ v, (x, v) ∉ binds) → bindL kindOf binds m x = m x
  | [], _, _ => rfl
  | (n, v) :: r, m, h => by
    unfold bindL
    rw [bindL_out fun w hw => h w (List.mem_cons_of_mem _ hw)]
    split
    · have : x ≠ n := by rintro rfl; exact h v List.mem_cons_self
      simp [this]
    · rfl
theorem bindC_out {kindOf : Str → Option NameKind} {x : Str} : ∀ {binds : List (Str × Value)} {m : Str → Option Value}, (∀ v, (x, v) ∉ binds) → bindC kindOf binds m x = m x
  | [], _, _ => rfl
  | (n, v) :: r, m, h => by
    unfold bindC
    rw [bindC_out fun w hw => h w (List.mem_cons_of_mem _ hw)]
    split
    · rfl
    · have : x ≠ n := by rintro rfl; exact h v List.mem_cons_self
      simp [this]
theorem bindL_get {kindOf : Str → Option NameKind} {x : Str} {v : Value} : ∀ {P : List Str} {vs : List Value} {i : Nat} {m : Str → Option Value}, P.Nodup → P[i]? = some x → vs[i]? = some v → kindOf x = some .local →
    bindL kindOf (P.zip vs) m x = some v
  | [], _, _, _, _, h, _, _ => by simp at h
  | _ :: _, [], _, _, _, _, h, _ => by simp at h
  | p :: P, w :: vs, 0, m, nd, h1, h2, hk => by
    simp at h1 h2; subst h1; subst h2
    show bindL kindOf ((p, w) :: P.zip vs) m p = _
    unfold bindL
    rw [bindL_out fun v hv => (List.nodup_cons.mp nd).1 (List.of_mem_zip hv).1, if_pos hk]
    simp
  | p :: P, w :: vs, i + 1, m, nd, h1, h2, hk => by
    show bindL kindOf ((p, w) :: P.zip vs) m x = _
    unfold bindL
    exact bindL_get (i := i) (List.nodup_cons.mp nd).2 (by simpa using h1) (by simpa using h2) hk
theorem bindC_get {kindOf : Str → Option NameKind} {x : Str} {v : Value} : ∀ {P : List Str} {vs : List Value} {i : Nat} {m : Str → Option Value}, P.Nodup → P[i]? = some x → vs[i]? = some v → kindOf x ≠ some .local →
    bindC kindOf (P.zip vs) m x = some v
  | [], _, _, _, _, h, _, _ => by simp at h
  | _ :: _, [], _, _, _, _, h, _ => by simp at h
  | p :: P, w :: vs, 0, m, nd, h1, h2, hk => by
    simp at h1 h2; subst h1; subst h2
    show bindC kindOf ((p, w) :: P.zip vs) m p = _
    unfold bindC
    rw [bindC_out fun v hv => (List.nodup_cons.mp nd).1 (List.of_mem_zip hv).1, if_neg hk]
    simp
  | p :: P, w :: vs, i + 1, m, nd, h1, h2, hk => by
    show bindC kindOf ((p, w) :: P.zip vs) m x = _
    unfold bindC
    exact bindC_get (i := i) (List.nodup_cons.mp nd).2 (by simpa using h1) (by simpa using h2) hk
def start (N : List Str) (vs : List V) : St := vs.map some ++ List.replicate (N.length - vs.length) none
def cxOf (CX : CXT) (P : Program) (w : World) (K : PySem.W.Frag) (mg : Str → Option Value) (base : Heap) (N : List Str) (qual : Str) (scope : Scope) (f : Addr) (cd : Value) (A : Around) (outer : List Env) (s : Shared) (H : Hp) (E : XK) : Cx where
  prog := P
  w := w
  K := K
  mg := mg
  base := base
  A := A.deeper (envOfC qual scope s.heap.objs.size f cd)
  N := N
  s₀ := s
  H₀ := H
  env := envOfC qual scope s.heap.objs.size f cd
  outer := outer
  stack := envOfC qual scope s.heap.objs.size f cd :: outer
  ex := []
  calm := true
  fn := fun _ => true
  pn := []
  xe := fun e s' => wpAny (model P w) (A.deeper (envOfC qual scope s.heap.objs.size f cd)) (leaving (envOfC qual scope s.heap.objs.size f cd) e) (fun _ s'' => CX outer H s E e s'') (fun e' s'' => CX outer H s E e' s'') s'
theorem cell_has {sc : Scope} {n : Nat} {x : Str} (h : sc.names.lookup x = some .cell) : ∃ c, (cellsFrom n sc.names []).lookup x = some c := by
  have q := PySem.W.cellsFrom_some sc.names n [] (.inl h)
  exact Option.isSome_iff_exists.mp q
theorem inv_start {CX : CXT} {P : Program} {w : World} {K : PySem.W.Frag} {mg : Str → Option Value} {base : Heap} {N ps : List Str} {qual : Str} {scope : Scope} {f : Addr} {cd : Value} {A : Around} {outer : List Env} {s s1 : Shared} {H : Hp} {E : XK} {us : List Value} {vs : List V}
    (S : FnScope N ps scope) (hd : A.handled = none) (e0 : Env0 P w K mg base A outer s H) (hl : vs.length = ps.length) (r : Vals vs us)
    (x : InCallC s s.heap.objs.size (bindL (envOfC qual scope s.heap.objs.size f cd).kindOf (ps.zip us) fun _ => none) (cellsFrom (s.heap.objs.size + 1) scope.names []) (bindC (envOfC qual scope s.heap.objs.size f cd).kindOf (ps.zip us) fun _ => none) s1) :
    Inv (cxOf CX P w K mg base N qual scope f cd A outer s H E) [] (start N vs) H s1 := by
  have hpl : ps.length ≤ N.length := by have := congrArg List.length S.pre; rw [List.length_take] at this; omega
  obtain ⟨h1, tk, rfl, hk⟩ := x.done
  have noA : ∀ b : Addr, b ∉ (cxOf CX P w K mg base N qual scope f cd A outer s H E).ex := fun b z => absurd (show b ∈ ([] : List Addr) from z) (by simp)
  refine ⟨⟨e0.mod, S.kind, rfl, rfl, Nat.le_refl _, fun y z c h1 h2 => ?_, fun y hy => ?_, fun y c _ h => ?_, fun _ => hd, Around.frames_deeper e0.frames, .inr ⟨rfl, rfl⟩, fun b z => absurd z (noA b), e0.bs, e0.bsz, fun b _ _ => noA b, fun b z => absurd z (noA b), e0.funs, e0.frf⟩,
    rfl, e0.bare, Un.kept hk, ⟨_, x.toInCall.ns, fun i y v h1 h2 h3 => ?_⟩, fun y c h => ⟨_, x.cell y c h⟩, e0.hok.fresh (Nat.le_refl _), fun y c h => ?_, fun p hp => absurd (show p ∈ ([] : List (Addr × Obj)) from hp) (by simp), e0.hok.kept hk, ?_⟩
  · exact name_of_addr x.apart (PySem.mem_of_lookup h1) (PySem.mem_of_lookup h2)
  · have hy : scope.names.lookup y = some .cell ∨ scope.names.lookup y = some .free := hy
    rcases hy with hy | hy
    · exact cell_has hy
    · exact absurd rfl (S.nofree _ (PySem.mem_of_lookup hy))
  · exact Nat.le_of_lt (x.above y c (PySem.mem_of_lookup h))
  · have hi : i < vs.length := by
      unfold start at h2
      by_cases hi : i < vs.length
      · exact hi
      · rw [List.getElem?_append_right (by simpa using hi)] at h2
        rw [List.getElem?_replicate] at h2
        split at h2 <;> cases h2
    have ha : vs[i]? = some v := by
      unfold start at h2
      rw [List.getElem?_append_left (by simpa using hi), List.getElem?_map] at h2
      cases e : vs[i]? with
      | none => rw [e] at h2; cases h2
      | some a => rw [e] at h2; cases h2; rfl
    obtain ⟨u, hu, rv⟩ := r.get ha
    have hp : ps[i]? = some y := by
      rw [← S.pre, List.getElem?_take_of_lt (by omega)]; exact h1
    have ndP : ps.Nodup := by rw [← S.pre]; exact S.nd.sublist (List.take_sublist _ _)
    refine ⟨u, rv, ?_⟩
    rcases S.par y (List.mem_of_getElem? hp) with k | k
    · exact .inl ⟨k, bindL_get ndP hp hu k⟩
    · obtain ⟨c, e⟩ := cell_has (n := s.heap.objs.size + 1) k
      refine .inr ⟨.inl k, c, e, ?_⟩
      have q := x.cell y c e
      rw [bindC_get ndP hp hu (by show scope.names.lookup y ≠ _; rw [k]; decide)] at q
      exact q
  · exact e0.hok.fresh (Nat.le_of_lt (x.above y c (PySem.mem_of_lookup h)))
  · unfold start
    show _ = N.length
    rw [List.length_append, List.length_map, List.length_replicate]
    omega
theorem fn_of {CX : CXT} {P : Program} {w : World} {K : PySem.W.Frag} {mg : Str → Option Value} {base : Heap} {k : Nat} {f : Addr} {name qual : Str} {params : Arguments} {body : List Stmt} {scope : Scope} {dV kV doc pm cdv ct oc : Value} {an od : Option Addr}
    {osl : Array (Option Value)} {N ps : List Str} {sp : Sp} (lk : K.lookup f = some ⟨oc, od, .func (PySem.W.fnOf name qual params body scope dV kV doc pm an cdv ct), osl⟩) (hcd : PySem.W.codeIn K cdv qual = true) (S : FnScope N ps scope)
    (len : ∀ vs H Q E, sp vs H Q E → vs.length = ps.length)
    (hbody : ∀ (A : Around) (outer : List Env) (s : Shared) (H : Hp) (vs : List V) (Q : VK) (E : XK), Room k (A.deeper (envOfC qual scope s.heap.objs.size f cdv)) → sp vs H Q E →
      ∃ t, PSs (cxOf CX P w K mg base N qual scope f cdv A outer s H E) body t ∧ t { nx := fun _ H' => Q .non H', rt := Q } (start N vs) H) :
    FnOk P w K mg base CX (k + 1) f (PySem.W.fnOf name qual params body scope dV kV doc pm an cdv ct) ps sp := by
  refine ⟨len, fun A outer s H args us vs Q E hr e0 hb r hsp => ?_⟩
  have hl := len _ _ _ _ hsp
  have KX : K.In s.heap := e0.mod.kin.keeps fun b o e => (e0.bs b o e).1
  have lim : s.heap.NoLimit := e0.mod.nolimit.keeps fun b o e => (e0.bs b o e).1
  have hkind : ∀ y ∈ ps.zip us, scope.names.lookup y.1 = some .local ∨ (scope.names.lookup y.1 = some .cell ∧ ((cellsFrom (s.heap.objs.size + 1) scope.names []).lookup y.1).isSome = true) := fun ⟨n, v⟩ hy => by
    rcases S.par n (List.of_mem_zip hy).1 with q | q
    · exact .inl q
    · exact .inr ⟨q, PySem.W.cellsFrom_some _ _ _ (.inl q)⟩
  refine codeAny_call_function hr.depth (KX _ _ lk) rfl S.co S.gen rfl (PySem.W.codeRec_of KX hcd) (hb _ _ _ _ ?_)
  refine wpAny_newFunctionEnv_cells S.kind hkind fun env he s1 x => ?_
  subst he
  refine ⟨lim.keeps x.toInCall.keep, codeAny_func ?_⟩
  obtain ⟨t, ht, hq⟩ := hbody A outer s H vs Q E (hr.deeper _) hsp
  have I : Inv (cxOf CX P w K mg base N qual scope f cdv A outer s H E) [] (start N vs) H s1 := inv_start S hr.hd e0 hl r x
  refine wpAny_mono (ht [] s1 (start N vs) H _ I hq) (fun fl s' hs => ?_) fun e s' hs => hs
  have fin : ∀ {σ' : St} {H' : Hp} {v : V} {u : Value}, Inv (cxOf CX P w K mg base N qual scope f cdv A outer s H E) [] σ' H' s' → RelV v u → Q v H' → CE outer P w H s Q u s' :=
    fun {σ' H' v u} J rv q => ⟨v, H', J.os, J.bare, J.base, J.hok, rv, q⟩
  cases fl with
  | ret u =>
    obtain ⟨v, σ', H', J, rv, q⟩ := hs
    exact fin J rv q
  | next =>
    obtain ⟨σ', H', J, q⟩ := hs
    exact fin (v := V.non) (u := Value.none) J rfl q
  | brk =>
    obtain ⟨_, _, _, q⟩ := hs
    exact False.elim q
  | cont =>
    obtain ⟨_, _, _, q⟩ := hs
    exact False.elim q
end L2
namespace L2
open PySem PySem.Spec PyProof.Rows
section
variable {X : Cx} {x : Str} {p pos : Pos} {e : Expr} {es : List Expr} {t : TA} {id T : String} {r : List V → Hp → VK → Prop}
def tCB (r : List V → Hp → VK → Prop) (t : TA) : TE := fun σ H Q => t σ H fun vs H1 => r vs H1 Q
theorem pe_callB (hc : CallR X (.builtin id) r) (hg : Gl X x) (hm : X.mg x = none) (hv : bootBuiltins x = some (.builtin id)) (ha : PA X (e :: es) t) (hn : x ≠ "__name__" := by decide) (hdb : (x == ("__debug__" : Str)) = false := by decide)
    (he : starEach (e :: es) X.env = (false, eval e X.env) :: starEach es X.env := by rfl) (hpl : (backTo pos (starEach es X.env)).any (·.1) = false := by rfl) : PE X (.Call (.Name x p) (e :: es) [] pos) (tCB r t) := by
  intro pins s σ H Q I h
  refine wpAny_Call_Name_kw (ld_blt I hg hm hv ?_ hn hdb)
  exact PyProof.Rows.callWith_builtin1 (thn (ha pos pins s σ H _ I h) fun us s1 ⟨vs, H1, I1, r1, q1⟩ => hc pins s1 σ H1 vs us Q I1 r1 q1) he hpl
theorem pe_callTy (hc : CallR X (.type T) r) (hg : Gl X x) (hm : X.mg x = none) (hv : bootBuiltins x = some (.type T)) (ha : PA X (e :: es) t) (hn : x ≠ "__name__" := by decide) (hdb : (x == ("__debug__" : Str)) = false := by decide)
    (he : starEach (e :: es) X.env = (false, eval e X.env) :: starEach es X.env := by rfl) (hpl : (backTo pos (starEach es X.env)).any (·.1) = false := by rfl) : PE X (.Call (.Name x p) (e :: es) [] pos) (tCB r t) := by
  intro pins s σ H Q I h
  refine wpAny_Call_Name_kw (ld_blt I hg hm hv ?_ hn hdb)
  exact PyProof.Rows.callWith_type1 (thn (ha pos pins s σ H _ I h) fun us s1 ⟨vs, H1, I1, r1, q1⟩ => hc pins s1 σ H1 vs us Q I1 r1 q1) he hpl
end
end L2
namespace HT
open PySem PyProof.Rows
section
open PySem.SeqAt
open PySem.AutoSeq1 (wpAny_loadPart')
open PySem.MeetsSeq PySem.MeetsSeq2 PySem.MeetsSeq3
end
section
variable {prog : Program} {w : World} {A : Around} {E : Value → Shared → Prop} {s : Shared}
def sIx (n d : Nat) : Option Int → Nat
  | none => d
  | some v => if v < 0 then (v + (n : Int)).toNat else min v.toNat n
theorem sIx_nat (n d k : Nat) : sIx n d (some (k : Int)) = min k n := by
  show (if (k : Int) < 0 then ((k : Int) + (n : Int)).toNat else min (k : Int).toNat n) = min k n
  rw [if_neg (by omega), Int.toNat_natCast]
theorem sIx_le (n d : Nat) (hd : d ≤ n) (o : Option Int) : sIx n d o ≤ n := by
  cases o with
  | none => exact hd
  | some v =>
    show (if v < 0 then (v + (n : Int)).toNat else min v.toNat n) ≤ n
    by_cases hv : v < 0
    · rw [if_pos hv]; omega
    · rw [if_neg hv]; exact Nat.min_le_right _ _
theorem clip_eq (v : Int) (n d : Nat) : (if v < 0 then max (v + (n : Int)) 0 else min v (n : Int)) = ((sIx n d (some v) : Nat) : Int) := by
  show (if v < 0 then max (v + (n : Int)) 0 else min v (n : Int)) = (((if v < 0 then (v + (n : Int)).toNat else min v.toNat n) : Nat) : Int)
  by_cases hv : v < 0
  · simp only [if_pos hv]; omega
  · simp only [if_neg hv]; omega
theorem adjust_gen (lo hi : Option Int) (n : Nat) : Builtin.Slice.sliceAdjust lo hi 1 (n : Int) = (((sIx n 0 lo : Nat) : Int), ((sIx n n hi : Nat) : Int)) := by
  have h1 : ¬ ((1 : Int) < 0) := by omega
  unfold Builtin.Slice.sliceAdjust
  simp only [h1, if_false]
  refine Prod.ext ?_ ?_
  · cases lo with
    | none => rfl
    | some v => exact clip_eq v n 0
  · cases hi with
    | none => rfl
    | some v => exact clip_eq v n n
theorem places_gen (i j : Nat) : Builtin.Slice.slicePlaces (i : Int) (j : Int) 1 = j - i := by
  unfold Builtin.Slice.slicePlaces
  have h1 : (1 : Int) > 0 := by omega
  simp only [h1, if_true, Int.ediv_one]
  split <;> omega
theorem slicePart_ {v : Value} {o : Option Int} {Q : Option Int → Shared → Prop} (p : IsPart v o) (h : Q o s) : wpAny (model prog w) A (Builtin.Slice.slicePartIndex v) Q E s := by
  cases p with
  | none => exact slicePart_none h
  | int i t => exact slicePart_int h
theorem sliceApplied_gen {sl : Addr} {vl vu : Value} {lo hi : Option Int} {n : Nat} {Q : Int × Int × Nat → Shared → Prop} (hs : s.heap.IsSliceOf sl vl vu .none) (pl : IsPart vl lo) (pu : IsPart vu hi)
    (h : Q (((sIx n 0 lo : Nat) : Int), 1, sIx n n hi - sIx n 0 lo) s) : wpAny (model prog w) A (Builtin.Slice.sliceApplied (.ref sl) (pure (n : Int))) Q E s := by
  obtain ⟨os, hos, hcs, hds⟩ := id hs
  unfold Builtin.Slice.sliceApplied Builtin.Slice.sliceFields
  refine wpAny_bind (wpAny_bind (wpAny_field hos hds (x := vl) rfl (wpAny_bind (wpAny_field hos hds (x := vu) rfl (wpAny_bind (wpAny_field hos hds (x := .none) rfl (wpAny_pure ?_)))))))
  refine wpAny_bind (slicePart_none ?_)
  show wpAny _ _ (if ((1 : Int) == 0) = true then _ else _) _ _ s
  rw [if_neg (by decide)]
  refine wpAny_bind (slicePart_ pl (wpAny_bind (slicePart_ pu (wpAny_bind (wpAny_pure ?_)))))
  show wpAny _ _ (match Builtin.Slice.sliceAdjust lo hi 1 (n : Int) with | (lo, hi) => pure (lo, (1 : Int), Builtin.Slice.slicePlaces lo hi 1)) _ _ s
  rw [adjust_gen lo hi n]
  show wpAny _ _ (pure (((sIx n 0 lo : Nat) : Int), (1 : Int), Builtin.Slice.slicePlaces ((sIx n 0 lo : Nat) : Int) ((sIx n n hi : Nat) : Int) 1)) _ _ s
  rw [places_gen]
  exact wpAny_pure h
theorem pick_gen (xs : Array Value) (i k : Nat) : ((List.range k).filterMap fun (m : Nat) => xs[((i : Int) + (m : Int) * 1).toNat]?).toArray = ((xs.toList.drop i).take k).toArray := by
  have e : (fun (m : Nat) => xs[((i : Int) + (m : Int) * 1).toNat]?) = fun m => xs[i + m]? := by
    funext m
    have : ((i : Int) + (m : Int) * 1).toNat = i + m := by omega
    rw [this]
  rw [e]
  have := pick_run xs i k
  rw [List.filterMap_map] at this
  have e2 : ((fun x => xs[x]?) ∘ fun x => i + x) = fun m => xs[i + m]? := rfl
  rw [e2] at this
  rw [this]
theorem getItem_tuple_cut {t sl : Addr} {items : Array Value} {vl vu : Value} {lo hi : Option Int} {Q : Value → Shared → Prop} (ht : IsTup s.heap t items) (hs : s.heap.IsSliceOf sl vl vu .none) (pl : IsPart vl lo) (pu : IsPart vu hi)
    (hw : ¬ (sIx items.size 0 lo = 0 ∧ sIx items.size items.size hi = items.size))
    (h : Q (.ref s.heap.objs.size) { s with heap := s.heap.push { cls := .type "tuple", data := .seq ((items.toList.drop (sIx items.size 0 lo)).take (sIx items.size items.size hi - sIx items.size 0 lo)).toArray } })
    (hsz : items.size ≤ sizeLine) : wpAny (model prog w) A (getItem (.ref t) (.ref sl)) Q E s := by
  have htake : sizeOk (.seq ((items.toList.drop (sIx items.size 0 lo)).take (sIx items.size items.size hi - sIx items.size 0 lo)).toArray) := by
    show ((items.toList.drop (sIx items.size 0 lo)).take (sIx items.size items.size hi - sIx items.size 0 lo)).toArray.size ≤ sizeLine
    rw [List.size_toArray, List.length_take, List.length_drop, Array.length_toList]
    omega
  have hj : sIx items.size items.size hi ≤ items.size := sIx_le _ _ (Nat.le_refl _) hi
  obtain ⟨os, hos, hcs, hds⟩ := id hs
  have hTs : s.TypeIs (.ref sl) "slice" := ⟨os, hos, hcs⟩
  unfold getItem
  try with_reducible refine wpAny_holding ?_
  first | refine wpAny_bind (wpAny_pure ?_) | skip
  refine wpAny_bind (wpAny_sequenceKey ht.typeIs (by decide) ?_)
  refine wpAny_bind (wpAny_callSpecial?_slot (name := Str.ofString "__getitem__") ht.typeIs PyProof.Rows.slot_tuple_getitem
    (wpAny_call_entry PyProof.Rows.slot_tuple_getitem ht.typeIs entry_tuple_getitem ?_ (args_tuple_getitem _ _)))
  show wpAny _ _ (Builtin.Tuple.tupleItemsOf (.ref t) >>= _) _ _ s
  refine wpAny_bind (tupleItemsOf_ ht ?_)
  refine wpAny_bind (wpAny_typeOf hTs ?_)
  rw [if_pos (by decide)]
  refine wpAny_bind (sliceApplied_gen hs pl pu ?_)
  have hno : ¬ ((((sIx items.size 0 lo : Nat) : Int) == 0 && (1 : Int) == 1 && (sIx items.size items.size hi - sIx items.size 0 lo) == items.size) = true) := by
    intro q
    rw [Bool.and_eq_true, Bool.and_eq_true] at q
    have q1 : ((sIx items.size 0 lo : Nat) : Int) = 0 := eq_of_beq q.1.1
    have q2 : sIx items.size items.size hi - sIx items.size 0 lo = items.size := eq_of_beq q.2
    exact hw ⟨by omega, by omega⟩
  show wpAny _ _ (if (((sIx items.size 0 lo : Nat) : Int) == 0 && (1 : Int) == 1 && (sIx items.size items.size hi - sIx items.size 0 lo) == items.size) = true then _ else _) _ _ s
  rw [if_neg hno, pick_gen]
  first
    | exact wpAny_bind (m := Builtin.Tuple.tupleExact _) (wpAny_newObj_type (wpAny_pure ⟨_, rfl, wpAny_pure h⟩) htake)
    | exact wpAny_bind (m := Builtin.Tuple.tupleExact _) (wpAny_newObj_type (wpAny_bind (wpAny_pure (wpAny_pure ⟨_, rfl, wpAny_pure h⟩))) htake)
    | exact wpAny_bind (wpAny_bind (m := Builtin.Tuple.tupleExact _) (wpAny_newObj_type (wpAny_pure (wpAny_pure ⟨_, rfl, wpAny_pure h⟩)) htake))
    | exact wpAny_bind (wpAny_bind (m := Builtin.Tuple.tupleExact _) (wpAny_newObj_type (wpAny_pure ⟨_, rfl, wpAny_pure h⟩) htake))
end
end HT
namespace L2
open PySem PySem.Spec PyProof.Rows
abbrev TO := St → Hp → (Option Int → Hp → Prop) → Prop
def PO (X : Cx) (e : Option Expr) (t : TO) : Prop :=
  ∀ (pins : List (Addr × Obj)) (s : Shared) (σ : St) (H : Hp) (Q : Option Int → Hp → Prop), Inv X pins σ H s → t σ H Q →
    wpAny (model X.prog X.w) X.A (evalPart e X.env) (fun u s' => ∃ o H', Inv X pins σ H' s' ∧ IsPart u o ∧ Q o H') X.xe s
def tNoPart : TO := fun _ H Q => Q none H
def tPart (t : TE) : TO := fun σ H Q => t σ H fun x H1 => ∃ i, x = .int i ∧ Q (some i) H1
section
variable {X : Cx} {e : Expr} {te : TE} {lo hi : Option Expr} {tl th : TO} {pos p2 : Pos}
theorem po_none : PO X none tNoPart := by
  intro pins s σ H Q I h
  rw [evalPart_none]
  exact wpAny_pure ⟨none, H, I, .none, h⟩
theorem po_some (h : PE X e te) : PO X (some e) (tPart te) := by
  intro pins s σ H Q I hw
  rw [evalPart_some]
  refine thn (h pins s σ H _ I hw) fun u s1 ⟨x, H1, I1, r1, q1⟩ => ?_
  obtain ⟨i, rfl, q⟩ := q1
  obtain ⟨t, rfl⟩ := r1
  exact ⟨some i, H1, I1, .int i t, q⟩
def SlR (X : Cx) (r : V → Option Int → Option Int → Hp → VK → Prop) : Prop :=
  ∀ (pins : List (Addr × Obj)) (s : Shared) (σ : St) (H : Hp) (x : V) (v vl vu : Value) (lo hi : Option Int) (sl : Addr) (Q : VK), Inv X pins σ H s → RelV x v → s.heap.IsSliceOf sl vl vu .none → IsPart vl lo → IsPart vu hi → r x lo hi H Q →
    ∃ T id, typeLookup (.type T) "__getitem__" = pure (some (.builtin id)) ∧ s.TypeIs v T ∧ wpAny (model X.prog X.w) X.A (getItem v (.ref sl)) (EP X pins σ Q) X.xe s
theorem SlR.or {r r' : V → Option Int → Option Int → Hp → VK → Prop} (h : SlR X r) (h' : SlR X r') : SlR X (fun x lo hi H Q => r x lo hi H Q ∨ r' x lo hi H Q) := by
  intro pins s σ H x v vl vu lo hi sl Q I rx hs pl pu q
  rcases q with q | q
  · exact h pins s σ H x v vl vu lo hi sl Q I rx hs pl pu q
  · exact h' pins s σ H x v vl vu lo hi sl Q I rx hs pl pu q
def tSl (r : V → Option Int → Option Int → Hp → VK → Prop) (te : TE) (tl th : TO) : TE := fun σ H Q => te σ H fun x H1 => tl σ H1 fun l H2 => th σ H2 fun u H3 => r x l u H3 Q
theorem pe_slice {r : V → Option Int → Option Int → Hp → VK → Prop} (hr : SlR X r) (he : PE X e te) (hl : PO X lo tl) (hu : PO X hi th) : PE X (.Subscript e (.Slice lo hi none p2) pos) (tSl r te tl th) := by
  intro pins s σ H Q I h
  refine Subscript_ (thn (he pins s σ H _ I h) fun v s1 ⟨x, H1, I1, r1, q1⟩ => ?_)
  refine wpAny_Slice (thn (hl pins s1 σ H1 _ I1 q1) fun vl s2 ⟨l, H2, I2, pl, q2⟩ => thn (hu pins s2 σ H2 _ I2 q2) fun vu s3 ⟨u, H3, I3, pu, q3⟩ => ?_)
  rw [evalPart_none]
  refine wpAny_pure ?_
  have I4 : Inv X pins σ H3 { s3 with heap := s3.heap.push { cls := .type "slice", data := .fields #[vl, vu, .none] } } := I3.kept (t' := s3.toks) fun b ob q => Heap.get?_push_of_some _ q
  obtain ⟨T, id, hT, ht, hg⟩ := hr pins { s3 with heap := s3.heap.push { cls := .type "slice", data := .fields #[vl, vu, .none] } } σ H3 x v vl vu l u s3.heap.objs.size Q I4 r1 (Heap.IsSliceOf.new ..) pl pu q3
  show wpAny (model X.prog X.w) X.A (subscriptTail e (.Slice lo hi none p2) v (.ref s3.heap.objs.size)) (EP X pins σ Q) X.xe { s3 with heap := s3.heap.push { cls := .type "slice", data := .fields #[vl, vu, .none] } }
  exact tail_any (ops := [.ref s3.heap.objs.size, v]) ht hT hg (by with_unfolding_all rfl)
def cutV (xs : List V) (lo hi : Option Int) : List V := (xs.drop (HT.sIx xs.length 0 lo)).take (HT.sIx xs.length xs.length hi - HT.sIx xs.length 0 lo)
theorem cutV_length (xs : List V) (lo hi : Option Int) : (cutV xs lo hi).length ≤ xs.length := by
  unfold cutV
  rw [List.length_take, List.length_drop]
  omega
def rSlT (K : PySem.W.Frag) : V → Option Int → Option Int → Hp → VK → Prop := fun x lo hi H Q => ∃ a xs, x = .ref a ∧ SqT K H a xs ∧
  ¬ (HT.sIx xs.length 0 lo = 0 ∧ HT.sIx xs.length xs.length hi = xs.length) ∧ ∀ p, H p = none → Q (.ref p) (upd H p (.tup (cutV xs lo hi)))
theorem sl_tup : SlR X (rSlT X.K) := by
  intro pins s σ H x v vl vu lo hi sl Q I rx hs pl pu h
  obtain ⟨a, xs, rfl, hx, hw, q⟩ := h
  cases rx
  obtain ⟨its, r, ht, hz⟩ := I.tuple hx
  have hlen : its.toArray.size = xs.length := by rw [List.size_toArray]; exact r.length.symm
  refine ⟨"tuple", _, PyProof.Rows.slot_tuple_getitem.lookup, ht.typeIs, ?_⟩
  refine HT.getItem_tuple_cut ht hs pl pu (by rw [hlen]; exact hw) ?_ (by rw [hlen]; exact hz)
  rw [hlen]
  refine ⟨.ref s.heap.objs.size, _, I.laid (t' := s.toks) (o := .tup (cutV xs lo hi)) (fun b ob q => Heap.get?_push_of_some _ q) (Nat.le_refl _) ?_, rfl, q _ (I.hok.fresh (Nat.le_refl _))⟩
  exact ⟨Nat.le_trans (cutV_length xs lo hi) hz, _, (r.drop (HT.sIx xs.length 0 lo)).take (HT.sIx xs.length xs.length hi - HT.sIx xs.length 0 lo), IsTup.new _ _⟩
end
end L2
namespace L2
open PySem PySem.Spec PyProof.Rows
def ixN (n : Nat) (i : Int) : Option Nat := if 0 ≤ i then (if i < n then some i.toNat else none) else if -(n : Int) ≤ i then some (i + n).toNat else none
def atI {α : Type} (xs : List α) (i : Int) : Option α := (ixN xs.length i).bind fun j => xs[j]?
theorem ixN_seq {n : Nat} {i : Int} {j : Nat} (h : ixN n i = some j) : seqIndex? i n = some j ∧ j < n ∧ -(n : Int) ≤ i ∧ i < n := by
  unfold ixN at h
  by_cases h0 : 0 ≤ i
  · rw [if_pos h0] at h
    by_cases h1 : i < n
    · rw [if_pos h1] at h
      have e : i.toNat = j := Option.some.inj h
      exact ⟨by rw [seqIndex_of h0 h1, e], by omega, by omega, h1⟩
    · rw [if_neg h1] at h; cases h
  · rw [if_neg h0] at h
    by_cases h1 : -(n : Int) ≤ i
    · rw [if_pos h1] at h
      have e : (i + n).toNat = j := Option.some.inj h
      exact ⟨by rw [seqIndex_neg (by omega) h1, e], by omega, h1, by omega⟩
    · rw [if_neg h1] at h; cases h
theorem atI_get {α : Type} {xs : List α} {i : Int} {v : α} (h : atI xs i = some v) : ∃ j, seqIndex? i xs.length = some j ∧ xs[j]? = some v ∧ j < xs.length ∧ -(xs.length : Int) ≤ i ∧ i < xs.length := by
  unfold atI at h
  cases e : ixN xs.length i with
  | none => rw [e] at h; cases h
  | some j =>
    rw [e] at h
    obtain ⟨h1, h2, h3, h4⟩ := ixN_seq e
    exact ⟨j, h1, h, h2, h3, h4⟩
theorem atI_nat {α : Type} {xs : List α} {j : Nat} {v : α} (h : xs[j]? = some v) : atI xs (j : Int) = some v := by
  have hj : j < xs.length := (List.getElem?_eq_some_iff.mp h).1
  have e : ixN xs.length (j : Int) = some j := by
    unfold ixN
    rw [if_pos (by omega), if_pos (by omega)]; simp
  unfold atI; rw [e]; exact h
def PlainIx (b : Expr) : Prop := ∀ o i, subscripted b false o i = operate [o, i] (getItem o i)
def IxR (X : Cx) (r : R2) : Prop :=
  ∀ (value slice : Expr) (pins : List (Addr × Obj)) (s : Shared) (σ : St) (H : Hp) (x y : V) (v u : Value) (Q : VK), Inv X pins σ H s → RelV x v → RelV y u → r x y H Q →
    subscripted slice false v u = operate [v, u] (getItem v u) → wpAny (model X.prog X.w) X.A (subscriptTail value slice v u) (EP X pins σ Q) X.xe s
def MtR (X : Cx) (id : String) (r : V → List V → Hp → VK → Prop) : Prop :=
  ∀ (pins : List (Addr × Obj)) (s : Shared) (σ : St) (H : Hp) (x : V) (xs : List V) (v : Value) (us : List Value) (Q : VK), Inv X pins σ H s → RelV x v → Vals xs us → r x xs H Q →
    wpAny (model X.prog X.w) X.A (call (.builtin id) (v :: us)) (EP X pins σ Q) X.xe s
section
variable {X : Cx} {a b : Expr} {ta tb : TE} {pos : Pos}
theorem IxR.or {r r' : R2} (h : IxR X r) (h' : IxR X r') : IxR X (fun x y H Q => r x y H Q ∨ r' x y H Q) := by
  intro value slice pins s σ H x y v u Q I rx ry q hs
  rcases q with q | q
  · exact h value slice pins s σ H x y v u Q I rx ry q hs
  · exact h' value slice pins s σ H x y v u Q I rx ry q hs
theorem MtR.or {id : String} {r r' : V → List V → Hp → VK → Prop} (h : MtR X id r) (h' : MtR X id r') : MtR X id (fun x xs H Q => r x xs H Q ∨ r' x xs H Q) := by
  intro pins s σ H x xs v us Q I rx rs q
  rcases q with q | q
  · exact h pins s σ H x xs v us Q I rx rs q
  · exact h' pins s σ H x xs v us Q I rx rs q
theorem pe_ix {r : R2} (hr : IxR X r) (ha : PE X a ta) (hb : PE X b tb) (hs : PlainIx b) : PE X (.Subscript a b pos) (tOp r ta tb) := by
  intro pins s σ H Q I h
  exact Subscript_ (binT ha hb I h fun v u s2 x y H2 I2 rx ry q => hr a b pins s2 σ H2 x y v u Q I2 rx ry q (hs _ _))
def rIxL (K : PySem.W.Frag) : R2 := fun x y H Q => ∃ p xs i v, x = .ref p ∧ y = .int i ∧ SqL K H p xs ∧ atI xs i = some v ∧ Q v H
def rIxT (K : PySem.W.Frag) : R2 := fun x y H Q => ∃ p xs i v, x = .ref p ∧ y = .int i ∧ SqT K H p xs ∧ atI xs i = some v ∧ Q v H
def rIxS : R2 := fun x y H Q => ∃ z i c, x = .str z ∧ y = .int i ∧ z.length ≤ sizeLine ∧ atI z.cps.toList i = some c ∧ Q (.str ⟨#[c]⟩) H
theorem ix_list : IxR X (rIxL X.K) := by
  intro value slice pins s σ H x y v u Q I rx ry h hs
  obtain ⟨p, xs, i, z, rfl, rfl, hq, he, q⟩ := h
  cases rx
  obtain ⟨t, rfl⟩ := ry
  obtain ⟨its, r, pl, hz⟩ := I.list hq
  obtain ⟨j, h1, h2, h3, h4, h5⟩ := atI_get he
  obtain ⟨w, ew, rw'⟩ := r.get h2
  have hl := r.length
  have hn := line63
  have fin : EP X pins σ Q w s := ⟨z, H, I, rw', q⟩
  by_cases h0 : 0 ≤ i
  · have hj : i.toNat = j := by
      rw [seqIndex_of h0 h5] at h1
      exact Option.some.inj h1
    exact item_listR pl.isList h0 (by omega) (by rw [hj]; simpa using ew) fin hs
  · have hj : (i + (its.toArray.size : Int)).toNat = j := by
      rw [seqIndex_neg (by omega) h4] at h1
      rw [List.size_toArray, ← hl]
      exact Option.some.inj h1
    exact subscriptTail_builtinR (x := w) pl.isList.typeIs slot_list_getitem.lookup
      (wpAny_getItem_list_neg (Q := fun r s' => r = w ∧ EP X pins σ Q r s') pl.isList (by omega) (by rw [List.size_toArray] <;> omega) (by omega) (by rw [hj]; simpa using ew) ⟨rfl, fin⟩) hs
theorem ix_tup : IxR X (rIxT X.K) := by
  intro value slice pins s σ H x y v u Q I rx ry h hs
  obtain ⟨p, xs, i, z, rfl, rfl, hq, he, q⟩ := h
  cases rx
  obtain ⟨t, rfl⟩ := ry
  obtain ⟨its, r, pl, hz⟩ := I.tuple hq
  obtain ⟨j, h1, h2, h3, h4, h5⟩ := atI_get he
  obtain ⟨w, ew, rw'⟩ := r.get h2
  have hl := r.length
  have hn := line63
  have fin : EP X pins σ Q w s := ⟨z, H, I, rw', q⟩
  exact subscriptTail_builtinR (x := w) pl.typeIs slot_tuple_getitem.lookup
    (getItem_tuple (j := j) (Q := fun r s' => r = w ∧ EP X pins σ Q r s') pl (by omega) (by omega) (by rw [List.size_toArray, ← hl]; exact h1) (by simpa using ew) ⟨rfl, fin⟩) hs
theorem ix_str : IxR X rIxS := by
  intro value slice pins s σ H x y v u Q I rx ry h hs
  obtain ⟨z, i, c, rfl, rfl, hz, he, q⟩ := h
  obtain ⟨t, rfl⟩ := rx
  obtain ⟨t', rfl⟩ := ry
  obtain ⟨j, h1, h2, h3, h4, h5⟩ := atI_get he
  have hl : z.cps.toList.length = z.length := by simp [Str.length]
  rw [hl] at h1 h4 h5
  have hn := line63
  exact tail_any (typeIs_str s z t) slot_str_getitem.lookup (getItem_str (c := c) (by
    have e1 : decide (i < -(2 ^ 63 : Int)) = false := decide_eq_false (by omega)
    have e2 : decide (i ≥ 2 ^ 63) = false := decide_eq_false (by omega)
    rw [e1, e2, Bool.or_false]) (by rw [h1]; simpa using h2) ⟨.str ⟨#[c]⟩, H, I.tok _, ⟨_, rfl⟩, q⟩) hs
theorem Inv.lst {pins : List (Addr × Obj)} {σ : St} {H : Hp} {s : Shared} {p : Addr} {xs : List V} (I : Inv X pins σ H s) (h : H p = some (.lst xs)) :
    ∃ (its : List Value) (n : Nat), Vals xs its ∧ s.heap.get? p = some { cls := .type "list", data := .seq its.toArray n } ∧ xs.length ≤ sizeLine := by
  obtain ⟨z, its, n, r, e⟩ := I.hok p _ h
  exact ⟨its, n, r, e, z⟩
theorem slice_bounds (lo hi : Option Int) (n : Nat) : (sliceBounds lo hi none n).1 = ((HT.sIx n 0 lo : Nat) : Int) ∧ (sliceBounds lo hi none n).2.1 = ((HT.sIx n n hi : Nat) : Int) ∧ (sliceBounds lo hi none n).2.2 = 1 := by
  refine ⟨?_, ?_, rfl⟩
  · cases lo with
    | none => simp [sliceBounds, HT.sIx]
    | some i =>
      simp only [sliceBounds, HT.sIx, Option.getD_none, show (1 : Int) > 0 by decide, if_true]
      by_cases h : i < 0
      · simp only [h, if_true] <;> omega
      · simp only [h, if_false] <;> omega
  · cases hi with
    | none => simp [sliceBounds, HT.sIx]
    | some i =>
      simp only [sliceBounds, HT.sIx, Option.getD_none, show (1 : Int) > 0 by decide, if_true]
      by_cases h : i < 0
      · simp only [h, if_true] <;> omega
      · simp only [h, if_false] <;> omega
theorem slicePick_cut (its : List Value) (lo hi : Option Int) : slicePick its.toArray lo hi none = ((its.drop (HT.sIx its.length 0 lo)).take (HT.sIx its.length its.length hi - HT.sIx its.length 0 lo)).toArray := by
  obtain ⟨h1, h2, h3⟩ := slice_bounds lo hi its.toArray.size
  unfold slicePick
  rw [h1, h2, h3]
  simp only [sliceRange_one, pick_run, List.size_toArray] <;> rfl
def rSlL (K : PySem.W.Frag) : V → Option Int → Option Int → Hp → VK → Prop := fun x lo hi H Q => ∃ a xs, x = .ref a ∧ SqL K H a xs ∧ ∀ p, H p = none → Q (.ref p) (upd H p (.lst (cutV xs lo hi)))
theorem sl_list : SlR X (rSlL X.K) := by
  intro pins s σ H x v vl vu lo hi sl Q I rx hs pl pu h
  obtain ⟨a, xs, rfl, hx, q⟩ := h
  cases rx
  obtain ⟨its, r, ht, hz⟩ := I.list hx
  have hlen := r.length
  refine ⟨"list", _, slot_list_getitem.lookup, ht.isList.typeIs, ?_⟩
  refine wpAny_getItem_list_slice ht.isList hs pl pu .none (by simp) ?_ (by rw [List.size_toArray] <;> omega)
  rw [slicePick_cut, ← hlen]
  refine ⟨.ref s.heap.objs.size, _, I.laid (t' := s.toks) (o := .lst (cutV xs lo hi)) (fun b ob q => Heap.get?_push_of_some _ q) (Nat.le_refl _) ?_, rfl, q _ (I.hok.fresh (Nat.le_refl _))⟩
  exact ⟨Nat.le_trans (cutV_length xs lo hi) hz, _, 0, (r.drop (HT.sIx xs.length 0 lo)).take (HT.sIx xs.length xs.length hi - HT.sIx xs.length 0 lo), Heap.get?_push_size _ rfl⟩
def flatV : V → Bool
  | .non => true
  | .bl _ => true
  | .int _ => true
  | .str _ => true
  | _ => false
def eqV : V → V → Bool
  | .non, .non => true
  | .bl a, .bl b => a == b
  | .bl a, .int b => (if a then 1 else 0) == b
  | .int a, .bl b => a == (if b then 1 else 0)
  | .int a, .int b => a == b
  | .str a, .str b => a == b
  | _, _ => false
theorem eqAt_V {A : Around} {s : Shared} {y x : V} {u v : Value} (ry : RelV y u) (rx : RelV x v) (fy : flatV y = true) (fx : flatV x = true) : SeqAt.EqAt A s u v (eqV y x) := by
  cases y with
  | non =>
    cases ry
    cases x with
    | non => cases rx; exact SeqAt.EqAt.same _
    | bl b => cases rx; exact SeqAt.EqAt.none_bool b
    | int b => obtain ⟨t, rfl⟩ := rx; exact SeqAt.EqAt.none_int b t
    | str b => obtain ⟨t, rfl⟩ := rx; exact SeqAt.EqAt.none_str b t
    | _ => exact absurd (show false = true from fx) Bool.false_ne_true
  | bl a =>
    cases ry
    cases x with
    | non => cases rx; exact SeqAt.EqAt.bool_none a
    | bl b => cases rx; exact SeqAt.EqAt.bool_bool a b
    | int b => obtain ⟨t, rfl⟩ := rx; exact SeqAt.EqAt.bool_int a b t
    | str b => obtain ⟨t, rfl⟩ := rx; exact SeqAt.EqAt.bool_str a b t
    | _ => exact absurd (show false = true from fx) Bool.false_ne_true
  | int a =>
    obtain ⟨t', rfl⟩ := ry
    cases x with
    | non => cases rx; exact SeqAt.EqAt.int_none a t'
    | bl b => cases rx; exact SeqAt.EqAt.int_bool a t' b
    | int b => obtain ⟨t, rfl⟩ := rx; exact SeqAt.EqAt.int_int a t' b t
    | str b => obtain ⟨t, rfl⟩ := rx; exact SeqAt.EqAt.int_str a t' b t
    | _ => exact absurd (show false = true from fx) Bool.false_ne_true
  | str a =>
    obtain ⟨t', rfl⟩ := ry
    cases x with
    | non => cases rx; exact SeqAt.EqAt.str_none a t'
    | bl b => cases rx; exact SeqAt.EqAt.str_bool a t' b
    | int b => obtain ⟨t, rfl⟩ := rx; exact SeqAt.EqAt.str_int a t' b t
    | str b => obtain ⟨t, rfl⟩ := rx; exact SeqAt.EqAt.str_str a t' b t
    | _ => exact absurd (show false = true from fx) Bool.false_ne_true
  | _ => exact absurd (show false = true from fy) Bool.false_ne_true
def eqU (x : V) (u : Value) : Bool := match u with
  | .none => eqV .non x
  | .bool b => eqV (.bl b) x
  | .int i _ => eqV (.int i) x
  | .str z _ => eqV (.str z) x
  | _ => false
theorem eqU_of {x y : V} {u : Value} (r : RelV y u) (f : flatV y = true) : eqU x u = eqV y x := by
  cases y with
  | non => cases r; rfl
  | bl b => cases r; rfl
  | int i => obtain ⟨t, rfl⟩ := r; rfl
  | str z => obtain ⟨t, rfl⟩ := r; rfl
  | _ => exact absurd (show false = true from f) Bool.false_ne_true
theorem any_eqU {x : V} : ∀ {xs : List V} {us : List Value}, Vals xs us → xs.all flatV = true → us.any (eqU x) = xs.any fun y => eqV y x
  | _, _, .nil, _ => rfl
  | y :: xs, u :: us, .cons r t, f => by
    rw [List.all_cons, Bool.and_eq_true] at f
    rw [List.any_cons, List.any_cons, eqU_of r f.1, any_eqU t f.2]
theorem mem_eqAt {A : Around} {s : Shared} {x : V} {v : Value} (rx : RelV x v) (fx : flatV x = true) : ∀ {xs : List V} {us : List Value}, Vals xs us → xs.all flatV = true → ∀ u ∈ us, SeqAt.EqAt A s u v (eqU x u)
  | _, _, .nil, _ => fun u hu => by cases hu
  | y :: xs, u :: us, .cons r t, f => fun u' hu => by
    rw [List.all_cons, Bool.and_eq_true] at f
    rcases List.mem_cons.mp hu with rfl | hu
    · rw [eqU_of r f.1]; exact eqAt_V r rx f.1 fx
    · exact mem_eqAt rx fx t f.2 u' hu
def inV (x : V) (xs : List V) : Bool := xs.any fun y => eqV y x
def rIn (K : PySem.W.Frag) (neg : Bool) : R2 := fun x y H Q => ∃ p xs, y = .ref p ∧ (SqL K H p xs ∨ SqT K H p xs) ∧ flatV x = true ∧ xs.all flatV = true ∧ Q (.bl (if neg then !inV x xs else inV x xs)) H
theorem op_in_seq : OpR X (compareOp .In) (rIn X.K false) := by
  intro pins s σ H x y v u Q I rx ry h
  obtain ⟨p, xs, rfl, hq, fx, fs, q⟩ := h
  cases ry
  rcases hq with hq | hq
  · obtain ⟨its, r, pl, hz⟩ := I.list hq
    refine SeqAt.in_listAt (eqU x) pl.isList (fun w hw => mem_eqAt rx fx r fs w (by simpa using hw)) ⟨.bl _, H, I, rfl, ?_⟩
    rw [show its.toArray.any (eqU x) = its.any (eqU x) by simp, any_eqU r fs]
    exact q
  · obtain ⟨its, r, pl, hz⟩ := I.tuple hq
    refine SeqAt.in_tupleAt (eqU x) pl (fun w hw => mem_eqAt rx fx r fs w (by simpa using hw)) ⟨.bl _, H, I, rfl, ?_⟩
    rw [show its.toArray.any (eqU x) = its.any (eqU x) by simp, any_eqU r fs]
    exact q
theorem op_notIn_seq : OpR X (compareOp .NotIn) (rIn X.K true) := by
  intro pins s σ H x y v u Q I rx ry h
  obtain ⟨p, xs, rfl, hq, fx, fs, q⟩ := h
  cases ry
  rcases hq with hq | hq
  · obtain ⟨its, r, pl, hz⟩ := I.list hq
    refine SeqAt.notIn_listAt (eqU x) pl.isList (fun w hw => mem_eqAt rx fx r fs w (by simpa using hw)) ⟨.bl _, H, I, rfl, ?_⟩
    rw [show its.toArray.any (eqU x) = its.any (eqU x) by simp, any_eqU r fs]
    exact q
  · obtain ⟨its, r, pl, hz⟩ := I.tuple hq
    refine SeqAt.notIn_tupleAt (eqU x) pl (fun w hw => mem_eqAt rx fx r fs w (by simpa using hw)) ⟨.bl _, H, I, rfl, ?_⟩
    rw [show its.toArray.any (eqU x) = its.any (eqU x) by simp, any_eqU r fs]
    exact q
theorem call_len_seq : CallR X (.builtin "len") (fun xs H Q => ∃ p ys, xs = [.ref p] ∧ (SqL X.K H p ys ∨ SqT X.K H p ys) ∧ Q (.int ys.length) H) := by
  intro pins s σ H xs us Q I r h
  obtain ⟨p, ys, rfl, hq, q⟩ := h
  obtain ⟨u, rfl, rx⟩ := vals1 r
  cases rx
  have hn := line63
  rcases hq with hq | hq
  · obtain ⟨its, r', pl, hz⟩ := I.list hq
    have hlen := r'.length
    exact Calls.call_len_list pl.isList (by simp only [List.size_toArray] <;> omega) ⟨.int ys.length, H, I.tok _, ⟨s.toks + 1, by rw [List.size_toArray, hlen]⟩, q⟩
  · obtain ⟨its, r', pl, hz⟩ := I.tuple hq
    have hlen := r'.length
    exact len_tuple pl (by simp only [List.size_toArray] <;> omega) ⟨.int ys.length, H, I.tok _, ⟨s.toks + 1, by rw [List.size_toArray, hlen]⟩, q⟩
theorem call_len_str : CallR X (.builtin "len") (fun xs H Q => ∃ z, xs = [.str z] ∧ z.length ≤ sizeLine ∧ Q (.int z.length) H) := by
  intro pins s σ H xs us Q I r h
  obtain ⟨z, rfl, hz, q⟩ := h
  obtain ⟨u, rfl, t, rfl⟩ := vals1 r
  have hn := line63
  exact len_str (by omega) ⟨.int z.length, H, I.tok _, ⟨_, rfl⟩, q⟩
theorem CallR.or {f : Value} {r r' : List V → Hp → VK → Prop} (h : CallR X f r) (h' : CallR X f r') : CallR X f (fun xs H Q => r xs H Q ∨ r' xs H Q) := by
  intro pins s σ H xs us Q I rs q
  rcases q with q | q
  · exact h pins s σ H xs us Q I rs q
  · exact h' pins s σ H xs us Q I rs q
theorem call_list_of : CallR X (.type "list") (fun xs H Q => ∃ p ys, xs = [.ref p] ∧ (SqL X.K H p ys ∨ SqT X.K H p ys) ∧ ∀ l, H l = none → Q (.ref l) (upd H l (.lst ys))) := by
  intro pins s σ H xs us Q I r h
  obtain ⟨p, ys, rfl, hq, q⟩ := h
  obtain ⟨u, rfl, rx⟩ := vals1 r
  cases rx
  have fin : ∀ (its : List Value), Vals ys its → ys.length ≤ sizeLine → ∀ (h' : Heap) (c' : Nat), (∀ b o', s.heap.get? b = some o' → h'.get? b = some o') →
      h'.get? s.heap.objs.size = some { cls := .type "list", dict := none, data := .seq its.toArray c', slots := #[] } → EP X pins σ Q (.ref s.heap.objs.size) { s with heap := h' } := fun its r' hz h' c' kp e =>
    ⟨.ref s.heap.objs.size, _, I.laid (t' := s.toks) kp (Nat.le_refl _) (show ObjOk X.prog X.w _ h' _ (.lst ys) from ⟨hz, its, c', r', e⟩), rfl, q _ (I.hok.fresh (Nat.le_refl _))⟩
  rcases hq with hq | hq
  · obtain ⟨its, r', pl, hz⟩ := I.list hq
    have hlen := r'.length
    obtain ⟨o, ho, hc, n, hd⟩ := pl.isList
    exact call_list_seq p (.inl rfl) ho hc hd (fun h' c' kp e => fin its r' hz h' c' kp e) (by simp only [List.size_toArray] <;> omega)
  · obtain ⟨its, r', pl, hz⟩ := I.tuple hq
    have hlen := r'.length
    obtain ⟨o, ho, hc, n, hd⟩ := pl
    exact call_list_seq p (.inr rfl) ho hc hd (fun h' c' kp e => fin its r' hz h' c' kp e) (by simp only [List.size_toArray] <;> omega)
theorem call_tuple_of : CallR X (.type "tuple") (fun xs H Q => ∃ p ys, xs = [.ref p] ∧ ((SqL X.K H p ys ∧ ∀ l, H l = none → Q (.ref l) (upd H l (.tup ys))) ∨ (SqT X.K H p ys ∧ Q (.ref p) H))) := by
  intro pins s σ H xs us Q I r h
  obtain ⟨p, ys, rfl, h⟩ := h
  obtain ⟨u, rfl, rx⟩ := vals1 r
  cases rx
  rcases h with ⟨hq, q⟩ | ⟨hq, q⟩
  · obtain ⟨its, r', pl, hz⟩ := I.list hq
    have hlen := r'.length
    refine call_tuple_list pl.isList (fun h' kp => ?_) (by simp only [List.size_toArray] <;> omega)
    have I1 : Inv X pins σ H { s with heap := h' } := I.kept (t' := s.toks) kp
    have I2 : Inv X pins σ (upd H h'.objs.size (.tup ys)) { s with heap := h'.push { cls := .type "tuple", data := .seq its.toArray } } :=
      I1.laid (t' := s.toks) (fun b o e => Heap.get?_push_of_some _ e) (Nat.le_refl _) (show ObjOk X.prog X.w _ _ _ (.tup ys) from ⟨hz, its, r', IsTup.new _ _⟩)
    exact ⟨.ref h'.objs.size, _, I2, rfl, q _ (I1.hok.fresh (Nat.le_refl _))⟩
  · obtain ⟨its, r', pl, hz⟩ := I.tuple hq
    exact call_tuple_same pl ⟨.ref p, H, I, rfl, q⟩
def tyV (K : PySem.W.Frag) (T : String) (x : V) (H : Hp) : Prop := match x with
  | .str _ => T = "str"
  | .int _ => T = "int"
  | .ref p => (T = "list" ∧ ∃ xs, SqL K H p xs) ∨ (T = "tuple" ∧ ∃ o, K.lookup p = some o ∧ o.cls = .type "tuple" ∧ o.dict = none) ∨
      (T = "dict" ∧ ((∃ kvs, H p = some (.dK kvs)) ∨ ∃ kvs, H p = some (.dT kvs))) ∨ (T = "set" ∧ ∃ S n, H p = some (.set S n))
  | _ => False
theorem tyV_is {pins : List (Addr × Obj)} {σ : St} {H : Hp} {s : Shared} {T : String} {x : V} {v : Value} (I : Inv X pins σ H s) (r : RelV x v) (ty : tyV X.K T x H) :
    s.TypeIs v T ∧ ∀ a, v = .ref a → ∃ ob, s.heap.get? a = some ob ∧ ob.dict = none := by
  cases x with
  | str z =>
    obtain ⟨t, rfl⟩ := r
    cases (show T = "str" from ty)
    exact ⟨typeIs_str s z t, fun _ e => nomatch e⟩
  | int i =>
    obtain ⟨t, rfl⟩ := r
    cases (show T = "int" from ty)
    exact ⟨typeIs_int s i t, fun _ e => nomatch e⟩
  | ref p =>
    cases r
    rcases ty with ⟨rfl, xs, hq⟩ | ⟨rfl, o, hk, hc, hd⟩ | ⟨rfl, hk⟩ | ⟨rfl, S, n, hk⟩
    · obtain ⟨its, _, pl, _⟩ := I.list hq
      refine ⟨pl.isList.typeIs, fun a e => ?_⟩
      cases e
      obtain ⟨o, n, e, c, hd, _⟩ := pl
      exact ⟨o, e, hd⟩
    · refine ⟨⟨o, I.kIn p o hk, hc⟩, fun a e => ?_⟩
      cases e
      exact ⟨o, I.kIn _ o hk, hd⟩
    · have z : ∃ o, s.heap.get? p = some o ∧ o.ExactDict := by
        rcases hk with ⟨kvs, hk⟩ | ⟨kvs, hk⟩
        · obtain ⟨_, _, _, _, o, _, _, e, ex, _⟩ := I.hok p _ hk
          exact ⟨o, e, ex⟩
        · obtain ⟨_, _, _, _, o, _, _, e, ex, _⟩ := I.hok p _ hk
          exact ⟨o, e, ex⟩
      obtain ⟨o, e, ex⟩ := z
      refine ⟨⟨o, e, ex.1⟩, fun a e2 => ?_⟩
      cases e2
      exact ⟨o, e, ex.2.1⟩
    · obtain ⟨o, _, _, _, e, ex, _⟩ := I.hok p _ hk
      refine ⟨⟨o, e, ex.1⟩, fun a e2 => ?_⟩
      cases e2
      exact ⟨o, e, ex.2.1⟩
  | _ => exact False.elim ty
def tBM (K : PySem.W.Frag) (T : String) (r : V → List V → Hp → VK → Prop) (to : TE) (t : TA) : TE := fun σ H Q => to σ H fun x H1 => tyV K T x H1 ∧ t σ H1 fun xs H2 => r x xs H2 Q
variable {o e : Expr} {es : List Expr} {to : TE} {t : TA} {name : Str} {apos cpos : Pos} {T id : String} {r : V → List V → Hp → VK → Prop}
theorem pe_bm (pa : PlainAttrs T) (slot : Slot T name id) (hty : typeOf (.builtin id) = pure (.type "method_descriptor")) (hm : MtR X id r) (ho : PE X o to) (ha : PA X (e :: es) t)
    (hbase : attributeBase o name X.env (eval o X.env) = eval o X.env := by rfl)
    (hfew : ((backTo cpos (starEach (e :: es) X.env)).all (fun x => !x.1) && (backToKw cpos (keywordEach [] X.env)).all (fun x => x.1.isSome)
      && decide ((e :: es).length + ([] : List Keyword).length + (if ([] : List Keyword).isEmpty then 0 else 1) < 30)) = true := by rfl)
    (hline : (apos.endLine == cpos.line) = true := by rfl) (hs : starEach (e :: es) X.env = (false, eval e X.env) :: starEach es X.env := by rfl) (hplain : (backTo cpos (starEach es X.env)).any (·.1) = false := by rfl) :
    PE X (.Call (.Attribute o name apos) (e :: es) [] cpos) (tBM X.K T r to t) := by
  intro pins s σ H Q I h
  refine wpAny_Call_method_late hbase hfew hline rfl (thn (ho pins s σ H _ I h) fun v s1 ⟨x, H1, I1, r1, ty, q1⟩ => ?_)
  obtain ⟨h1, h2⟩ := tyV_is I1 r1 ty
  refine ⟨T, id, pa, slot, hty, h1, h2, ?_⟩
  have hA := ha cpos pins s1 σ H1 _ I1 q1
  rw [hs] at hA ⊢
  refine Calls.callWith_builtin (by show (false || (backTo cpos (starEach es X.env)).any (·.1)) = false; rw [hplain] <;> rfl) (Calls.evalArgs_plain ?_)
  exact thn hA fun us s2 ⟨vs, H2, I2, r2, q2⟩ => hm pins s2 σ H2 x vs v us Q I2 r1 r2 q2
/- xs.append(e), list.index on a module's tuple .. are MtR facts of 06m -/
end
end L2
namespace L2
open PySem PySem.Spec PyProof.Rows
def MtM (X : Cx) (id : String) (r : V → List V → Hp → VK → Prop) : Prop :=
  ∀ (pins : List (Addr × Obj)) (s : Shared) (σ : St) (H : Hp) (x : V) (xs : List V) (v : Value) (us : List Value) (Q : VK), Inv X pins σ H s → RelV x v → Vals xs us → r x xs H Q →
    wpAny (model X.prog X.w) X.A (call (.builtin id) (v :: us)) (EP X pins σ Q) X.xe s
theorem Vals.one : ∀ {x : V} {us : List Value}, Vals [x] us → ∃ u, us = [u] ∧ RelV x u
  | _, _, .cons r .nil => ⟨_, rfl, r⟩
theorem Vals.two : ∀ {x y : V} {us : List Value}, Vals [x, y] us → ∃ u v, us = [u, v] ∧ RelV x u ∧ RelV y v
  | _, _, _, .cons r (.cons q .nil) => ⟨_, _, rfl, r, q⟩
theorem Vals.zero : ∀ {us : List Value}, Vals [] us → us = []
  | _, .nil => rfl
theorem Vals.dropLast {xs : List V} {us : List Value} (h : Vals xs us) : Vals xs.dropLast us.dropLast := by
  induction h with
  | nil => exact .nil
  | cons r t ih =>
    cases t with
    | nil => exact .nil
    | cons q t' => exact .cons r ih
theorem Vals.eraseIdx : ∀ {xs : List V} {us : List Value} (i : Nat), Vals xs us → Vals (xs.eraseIdx i) (us.eraseIdx i)
  | _, _, _, .nil => .nil
  | _, _, 0, .cons _ t => t
  | _, _, i + 1, .cons r t => .cons r (Vals.eraseIdx i t)
theorem Vals.reverse {xs : List V} {us : List Value} (h : Vals xs us) : Vals xs.reverse us.reverse := by
  induction h with
  | nil => exact .nil
  | cons r t ih => rw [List.reverse_cons, List.reverse_cons]; exact Vals.append ih (.cons r .nil)
theorem foldl_rep (its : List Value) : ∀ (k : Nat) (acc : List Value),
    List.foldl (fun x1 x2 => x1 ++ x2) acc.toArray (List.replicate k its.toArray) = (acc ++ (List.replicate k its).flatten).toArray
  | 0, acc => by simp
  | k + 1, acc => by
    have e : acc.toArray ++ its.toArray = (acc ++ its).toArray := by simp
    have e2 : (acc ++ its) ++ (List.replicate k its).flatten = acc ++ (List.replicate (k + 1) its).flatten := by
      rw [List.replicate_succ, List.flatten_cons, List.append_assoc]
    rw [← e2, ← foldl_rep its k (acc ++ its), ← e, List.replicate_succ, List.foldl_cons]
section
variable {X : Cx} {pins : List (Addr × Obj)} {σ : St} {H : Hp} {s : Shared} {l b : Addr} {xs ys zs : List V}
theorem Inv.lset {its its' : List Value} {n : Nat} {f : Array Value → Array Value} {t' : Nat} (I : Inv X pins σ H s) (hH : H l = some (.lst xs))
    (e : s.heap.get? l = some { cls := .type "list", data := .seq its.toArray n }) (hf : f its.toArray = its'.toArray) (hv : Vals ys its') (hz : ys.length ≤ sizeLine) :
    Inv X pins σ (upd H l (.lst ys)) { s with heap := s.heap.update l (Obj.mapSeq f), toks := t' } := by
  have q := PySem.IsL.update e f
  rw [hf] at q
  refine I.write (x := l) (e := l) (by rw [hH]; exact trivial) (.inl rfl) (fun b' u hb hu => (Heap.get?_update_other s.heap (Obj.mapSeq f) (Ne.symm hb)).trans hu) ⟨_, q⟩ ?_
  exact ⟨hz, its', _, hv, q⟩
theorem Inv.lnew {its : List Value} {t' : Nat} (I : Inv X pins σ H s) (hv : Vals ys its) (hz : ys.length ≤ sizeLine) :
    Inv X pins σ (upd H s.heap.objs.size (.lst ys)) { s with heap := s.heap.push { cls := .type "list", data := .seq its.toArray }, toks := t' } :=
  I.laid (fun _ _ q => Heap.get?_push_of_some _ q) (Nat.le_refl _) ⟨hz, its, 0, hv, Heap.get?_push_size _ rfl⟩
theorem Inv.fresh (I : Inv X pins σ H s) : H s.heap.objs.size = none := I.hok.fresh (Nat.le_refl _)
theorem Inv.lstM (I : Inv X pins σ H s) (hH : H l = some (.lst xs)) : xs.length ≤ sizeLine ∧ ∃ (its : List Value) (n : Nat), Vals xs its ∧ xs.length = its.length ∧ s.heap.get? l = some { cls := .type "list", data := .seq its.toArray n } := by
  obtain ⟨z, its, n, r, e⟩ := I.hok l _ hH
  exact ⟨z, its, n, r, r.length, e⟩
end
section
variable {X : Cx}
def rAppend : V → List V → Hp → VK → Prop := fun x vs H Q => ∃ l xs y, x = .ref l ∧ vs = [y] ∧ H l = some (.lst xs) ∧ xs.length < sizeLine ∧ Q .non (upd H l (.lst (xs ++ [y])))
theorem mt_append : MtM X "list.append" rAppend := by
  intro pins s σ H x vs v us Q I rx rv h
  obtain ⟨l, xs, y, rfl, rfl, hH, hz, q⟩ := h
  cases rx
  obtain ⟨u, rfl, ru⟩ := rv.one
  obtain ⟨z, its, n, r, hl, e⟩ := I.lstM hH
  refine call_meets F.slot_list_append ⟨_, e, rfl⟩ F.entry_list_append (F.args_list_append_2 _ _) (PySem.list_append l its.toArray n u (by rw [List.size_toArray]; omega)) ⟨e, ?_⟩
  refine ⟨.non, _, I.lset (its' := its ++ [u]) hH e (by simp) (r.append (.cons ru .nil)) ?_, rfl, q⟩
  rw [List.length_append, List.length_singleton]
  omega
def rCat : R2 := fun x y H Q => ∃ l b xs zs, x = .ref l ∧ y = .ref b ∧ H l = some (.lst xs) ∧ H b = some (.lst zs) ∧ xs.length + zs.length ≤ sizeLine ∧ ∀ p, H p = none → Q (.ref p) (upd H p (.lst (xs ++ zs)))
theorem op_cat : OpR X (binaryOp .Add) rCat := by
  intro pins s σ H x y v u Q I rx ry h
  obtain ⟨l, b, xs, zs, rfl, rfl, hH, hB, hz, q⟩ := h
  cases rx
  cases ry
  obtain ⟨z, its, n, r, hl, e⟩ := I.lstM hH
  obtain ⟨z2, its2, n2, r2, hl2, e2⟩ := I.lstM hB
  refine PySem.P.add_list e e2 ?_ (by rw [List.size_toArray, List.size_toArray]; omega)
  have ea : its.toArray ++ its2.toArray = (its ++ its2).toArray := by simp
  rw [ea]
  exact ⟨.ref _, _, I.lnew (t' := s.toks) (r.append r2) (by rw [List.length_append]; omega), rfl, q _ I.fresh⟩
end
section
variable {prog : Program} {w : World} {A : Around} {E : Value → Shared → Prop} {s : Shared}
end
section
variable {X : Cx}
end
end L2
namespace Att
open PySem PySem.W PySem.Calls PyProof.Rows
theorem ints_of_wellAll {P : Params} {h : Heap} : ∀ (ns : List Int) (vs : List Value), WellAll P h vs (ns.map WData.int) → IntsAre vs ns := by
  intro ns
  induction ns with
  | nil =>
    intro vs w
    rw [List.map_nil] at w
    cases w
    exact .nil
  | cons n ns ih =>
    intro vs w
    rw [List.map_cons] at w
    cases w with
    | cons a b =>
      cases a
      exact .cons _ _ (ih _ b)
theorem script_of {l : OpenLaw} {n : Nat} (hn : l.most = some n) {P : Params} {h : Heap} {args : List WData} {vals : List Value}
    (hpre : l.row.toRowW.claim.pre args = true) (hwl : WellAll P h vals args) :
    ∃ a vs ns, vals = [Value.ref a] ∧ args = [WData.list (ns.map WData.int)] ∧ h.get? a = some { cls := .type "list", data := .seq vs.toArray } ∧ IntsAre vs ns ∧ ns.length ≤ n := by
  have hsh : WShape.hasAll [] args [.list .int] = true := (pre_splitW hpre).1
  have hc : l.pre.holds [] { args := args } = true := (pre_splitW hpre).2
  obtain ⟨d, r, rfl, h1, h2⟩ := hasAllW_cons hsh
  obtain rfl := hasAllW_nil h2
  obtain ⟨xs, rfl, h3⟩ := hasW_list h1
  obtain ⟨ns, rfl⟩ := items_int h3
  have hlen : ns.length ≤ n := by
    unfold OpenLaw.pre at hc
    have h4 : (WTm.not (.lt (.lit (.int (n : Int))) (.len (.arg 0)))).holds [] { args := [.list (ns.map .int)] } = true := by
      have h4 := (holds_andW hc).1
      rw [hn] at h4
      exact h4
    have h5 := condW_of h4 (w_not (w_lt w_lit (w_len_list (w_arg rfl))))
    rw [List.length_map] at h5
    refine Nat.le_of_not_lt fun q => ?_
    have q' : (n : Int) < ((ns.length : Nat) : Int) := by omega
    first
      | (rw [decide_eq_true q'] at h5; exact absurd h5 (by decide))
      | (simp at h5; omega)
  cases hwl with
  | cons w1 w2 =>
    cases w2
    cases w1 with
    | list ho hall => exact ⟨_, _, ns, rfl, rfl, ho, ints_of_wellAll ns _ hall, hlen⟩
theorem post_true (l : OpenLaw) (args : List WData) : l.row.toRowW.claim.post args (.bool true) args = true :=
  postW_of (r := l.row.toRowW) (X := (true == true))
    (show WShape.has [] (.bool true) .bool = true by first | rfl | decide | simp [WShape.has, WShape.arms, WShape.armsAll])
    (show (WTm.eq .res (.lit (.bool true))).value [] { args := args, res := some (.bool true), after := args } = some (.bool (true == true)) from w_eq_bool (w_res rfl) w_lit) rfl
theorem attach_call {l : OpenLaw} {n : Nat} {q : Program} {loose : List Str} {XP : (Str → Option Value) → Heap → Prop} {YP : World → Heap → Prop} {d : DefRec}
    (hn : l.most = some n) (hdf : d.params.defaults = [])
    (call : ∀ (w : World) (s₀ s₁ : Shared) (mg mb : Str → Option Value) (fa : Addr) (o : Obj) (pm cd doc : Value) (a : Addr) (vs : List Value) (ns : List Int),
      Ground q loose [] XP w s₀ mg mb s₁.heap → YP w s₁.heap →
      s₁.heap.get? fa = some o → o.data = .func (docDef d.name d.params d.body d.scope pm cd doc) → s₁.heap.CodeRec cd d.name → mg d.name = some (.ref fa) →
      s₁.heap.get? a = some { cls := .type "list", data := .seq vs.toArray } → IntsAre vs ns → ns.length ≤ n → s₁.gens = #[] →
      codeAny (model l.prog w) callerA (.call (.ref fa) ⟨[.ref a], []⟩) (fun r s' => r = .ok (.ret (.bool true)) ∧ OldK s₁.heap s'.heap ∧ s'.os = s₁.os ∧ AllBare s'.gens) s₁) :
    WalkO q loose XP YP l.row.toRowW d [] (fun f vs => PySem.call f vs) := by
  intro w s₀ s₁ mg mb G Y fa o pm cd doc dV kV ho hd hcd hD hmg hg args vals as hpre hlay hrd hwl hlo
  obtain rfl : dV = .none := Dflts.none hD hdf
  obtain rfl : kV = .none := Dflts.noKw hD
  obtain ⟨a, vs, ns, rfl, rfl, hobj, hints, hlen⟩ := script_of hn hpre hwl
  refine enter_call (codeAny_mono (call w s₀ s₁ mg mb fa o pm cd doc a vs ns G Y ho (fd_plain hd) hcd hmg hobj hints hlen hg) fun r s' hq => ?_)
  obtain ⟨rfl, h2, h3, h4⟩ := hq
  exact ⟨.inl ⟨.bool true, .bool true, [], rfl, fun _ => rfl, .bool true, post_true l _, fun _ => ⟨List.Pairwise.nil, fun _ hm => (nomatch hm)⟩⟩, h2, h3, h4⟩
section
variable {prog : Program} {w : World} {A : Around} {E : Value → Shared → Prop} {s : Shared} {K : Frag}
def ledger (h : Heap) (L d : Addr) : List (Addr × Obj) := (List.range h.objs.size).filterMap fun a => if a = L ∨ a = d then none else (h.get? a).map fun o => (a, o)
end
end Att
namespace L2
open PySem PySem.Spec PyProof.Rows
theorem vals_ints : ∀ {vs : List Value} {ns : List Int}, IntsAre vs ns → Vals (ns.map V.int) vs
  | _, _, .nil => .nil
  | _, _, .cons n t h => .cons ⟨t, rfl⟩ (vals_ints h)
def Only (H : Hp) : Prop := ∀ b, H b = none ∨ ∃ o xs, H b = some (.frz o (.lst xs))
theorem law_call {P : Program} {w : World} {K : PySem.W.Frag} {mg mb : Str → Option Value} {CX : CXT} {k : Nat} {fa a : Addr} {fd : FuncData} {x : Str} {sp : Sp} {s₁ : Shared} {vs : List Value} {ns : List Int}
    (KX : K.In s₁.heap) (hns : s₁.heap.Ns mainGlobals mg) (hb : s₁.heap.Ns builtinsNs mb) (hbb : ∀ x : Str, x ≠ "__name__" → mb x = bootBuiltins x) (hlim : s₁.heap.NoLimit) (hg : s₁.gens = #[])
    (ha : s₁.heap.get? a = some { cls := .type "list", data := .seq vs.toArray }) (hi : IntsAre vs ns) (hl : ns.length ≤ sizeLine) (hr : Room k callerA)
    (F : ∀ base : Heap, K.In base → base.Ns mainGlobals mg → FnOk P w K mg base CX k fa fd [x] sp) (hbind : ∀ (s : Shared) (u : Value), BindsTo s fd ⟨[u], []⟩ [(x, u)])
    (hsp : ∀ H : Hp, Only H → SqL K H a (ns.map V.int) → sp [.ref a] H (fun v _ => v = .bl true) fun _ _ _ => False)
    (hCX : ∀ H e s', CX [] H s₁ (fun _ _ _ => False) e s' → False) :
    codeAny (model P w) callerA (.call (.ref fa) ⟨[.ref a], []⟩) (fun r s' => r = .ok (.ret (.bool true)) ∧ OldK s₁.heap s'.heap ∧ s'.os = s₁.os ∧ AllBare s'.gens) s₁ := by
  have rv := vals_ints hi
  have lenV := hi.length
  have core : ∀ H : Hp, Only H → SqL K H a (ns.map V.int) → HOk P w H s₁.heap → (∀ b, H b ≠ none → b = a) → (H a ≠ none → K.lookup a = none) →
      codeAny (model P w) callerA (.call (.ref fa) ⟨[.ref a], []⟩) (fun r s' => r = .ok (.ret (.bool true)) ∧ OldK s₁.heap s'.heap ∧ s'.os = s₁.os ∧ AllBare s'.gens) s₁ := by
    intro H hO hS hok hA hK
    have base_of : ∀ {b : Addr} {o : Obj}, s₁.heap.get? b = some o → H b = none → (hidT s₁.heap H).get? b = some o := fun e n => hidT_get e n
    have noA : ∀ {b : Addr} {o : Obj} {es : Array DictEntry} {ep : Nat}, s₁.heap.get? b = some o → o.data = .dict es ep → H b = none := fun {b o es ep} e d => by
      cases q : H b with
      | none => rfl
      | some u =>
        have e' : b = a := hA b (by rw [q]; simp)
        subst e'
        rw [ha] at e; cases e
        have d' : Data.seq vs.toArray _ = Data.dict es ep := d
        cases d'
    have nsK : ∀ {b : Addr} {m : Str → Option Value}, s₁.heap.Ns b m → (hidT s₁.heap H).Ns b m := fun {b m} ⟨o, es, ep, e, d, r⟩ => ⟨o, es, ep, base_of e (noA e d), d, r⟩
    have hKb : K.In (hidT s₁.heap H) := fun b o e => base_of (KX b o e) (by
      cases q : H b with
      | none => rfl
      | some u =>
        have e' : b = a := hA b (by rw [q]; simp)
        subst e'
        rw [hK (by rw [q]; simp)] at e; cases e)
    have hM : Mod K mg (hidT s₁.heap H) := ⟨hKb, nsK hns, ⟨mb, nsK hb, hbb⟩, let ⟨mc, h1, h2⟩ := hlim; ⟨mc, nsK h1, h2⟩⟩
    have e0 : Env0 P w K mg (hidT s₁.heap H) callerA [] s₁ H := ⟨rfl, hM, fun b o e => of_hidT e, Nat.le_of_eq (hidT_size _ _), trivial, fun b hb => absurd (show b ∈ ([] : List Addr) from hb) (by simp), hok, .of_eq hg⟩
    refine codeAny_mono ((F _ hKb (nsK hns)).run callerA [] s₁ H ⟨[.ref a], []⟩ [.ref a] [.ref a] _ _ hr e0 (hbind s₁ (.ref a)) (.cons rfl .nil) (hsp H hO hS)) fun r s' h => ?_
    cases r with
    | error e => exact (hCX H e s' h).elim
    | ok fl =>
      cases fl with
      | next => exact False.elim h
      | brk => exact False.elim h
      | cont => exact False.elim h
      | ret u =>
        obtain ⟨v, H', os, bare, un, hok', r', q⟩ := h
        have q' : v = .bl true := q
        subst q'
        obtain rfl : u = Value.bool true := r'
        refine ⟨rfl, OldK.of_keep fun b o e => ?_, os, bare⟩
        cases q : H b with
        | none => exact un.keep b o e q (by intro z; exact absurd (show b ∈ ([] : List Addr) from z) (by simp)) (by simp)
        | some u =>
          rcases hO b with z | ⟨ob, xs, z⟩
          · rw [q] at z; cases z
          · have z2 := un.frzs b ob _ z
            obtain ⟨e1, _⟩ := hok b _ z
            obtain ⟨e2, _⟩ := hok' b _ z2
            rw [e] at e1; cases e1
            exact e2
  cases hk : K.lookup a with
  | some o =>
    have e := KX a o hk
    rw [ha] at e
    cases e
    refine core (fun _ => none) (fun _ => .inl rfl) (.inr ⟨_, vs.toArray, _, hk, rfl, rfl, rfl, by rw [List.size_toArray, lenV]; exact hl, by simpa using rv⟩) (fun b u z => by have z' : (none : Option HO) = some u := z; cases z') (fun b z => absurd rfl z) fun z => absurd rfl z
  | none =>
    refine core (fun b => if b = a then some (.frz { cls := .type "list", data := .seq vs.toArray } (.lst (ns.map V.int))) else none) (fun b => ?_) (.inl (.inr ⟨{ cls := .type "list", data := .seq vs.toArray }, if_pos rfl⟩)) (fun b u z => ?_) (fun b z => ?_) fun _ => hk
    · by_cases hb : b = a
      · exact .inr ⟨_, _, if_pos hb⟩
      · exact .inl (if_neg hb)
    · by_cases hb : b = a
      · have z' := (if_pos hb).symm.trans z
        cases z'
        subst hb
        exact ⟨ha, by rw [List.length_map]; exact hl, vs, _, rv, ha⟩
      · have z' := (if_neg hb).symm.trans z
        cases z'
    · by_cases hb : b = a
      · exact hb
      · exact absurd (if_neg hb) z
end L2
namespace L2
open PySem PySem.Spec PyProof.Rows
abbrev KOf {K : PySem.W.Frag} {h : Heap} (_ : K.In h) : PySem.W.Frag := K
theorem walk_of {l : PySem.W.OpenLaw} {n k : Nat} {q : Program} {loose : List Str} {XP : (Str → Option Value) → Heap → Prop} {YP : World → Heap → Prop} {d : DefRec} {K : Params → PySem.W.Frag} {CX : World → CXT} {sp : World → Sp} {x : Str}
    (hn : l.most = some n) (hn2 : n ≤ sizeLine) (hdf : d.params.defaults = []) (hr : Room k callerA)
    (hY : ∀ (w : World) (h : Heap), YP w h → (K w.params).In h)
    (F : ∀ (w : World) (mg : Str → Option Value) (fa : Addr) (h : Heap), (K w.params).In h → h.Ns mainGlobals mg → mg d.name = some (.ref fa) →
      ∃ fd : FuncData, (∀ (s : Shared) (u : Value), BindsTo s fd ⟨[u], []⟩ [(x, u)]) ∧
        ∀ base : Heap, (K w.params).In base → base.Ns mainGlobals mg → FnOk l.prog w (K w.params) mg base (CX w) k fa fd [x] (sp w))
    (hsp : ∀ (w : World) (H : Hp) (a : Addr) (ns : List Int), ns.length ≤ n → Only H → SqL (K w.params) H a (ns.map V.int) → sp w [.ref a] H (fun v _ => v = .bl true) fun _ _ _ => False)
    (hCX : ∀ (w : World) (H : Hp) (s : Shared) (e : Value) (s' : Shared), CX w [] H s (fun _ _ _ => False) e s' → False) :
    PySem.W.WalkO q loose XP YP l.row.toRowW d [] (fun f vs => PySem.call f vs) := by
  refine Att.attach_call hn hdf fun w s₀ s₁ mg mb fa o pm cd doc a vs ns G Y ho hd hcd hmg hobj hints hlen hg => ?_
  have KX := hY w _ Y
  obtain ⟨fd, hb, hF⟩ := F w mg fa _ KX G.T.g hmg
  exact law_call KX G.T.g G.T.b G.T.builtins G.T.nolimit hg hobj hints (Nat.le_trans hlen hn2) hr hF hb (fun H hO hS => hsp w H a ns hlen hO hS) fun H e s' => hCX w H s₁ e s'
end L2
/- THE LAST THEOREM (shape; LID, My.* are yours):
   My.Adr: a structure of the addresses that your layer names (classes, functions); My.Txt K t: a structure (Prop) of the equations over K;
   My.txt_mk : {K} {implicit addresses ..} (e1 : nsIn K mainGlobals "law" = some (some (.ref f))) (e2 : K.lookup f = some ⟨oc, od, .func (fnOf "law" "law" params body scope dV kV doc pm an cdv ct), sl⟩) (e3 : codeIn K cdv "law" = true) .. : ∃ t, My.Txt K t
set_option maxRecDepth 100000 in
set_option maxHeartbeats 0 in
theorem PySem.Challenge.cw_LID_holds : PySem.Challenge.rw_LID.Holds := by
  w_on; o_law; k_head; (case hw => w_witness2)
  k_fill
  refine L2.walk_of (l := PySem.Challenge.rw_LID) (n := 63) (k := 40) (x := "script") (CX := fun w => ..) (sp := fun _ => My.sp_law) rfl (by decide) rfl ⟨rfl, by decide, by decide⟩ (fun w h Y => PySem.W.kIn_of Y) ?F ?S ?C
  case F =>
    intro w mg fa h KX G hmg
    have T : ∃ t, My.Txt (L2.KOf KX) t := by
      dsimp only [L2.KOf]                          -- K must stand as «<heap const> w.params» for k_is
      refine' My.txt_mk ?e1 ?e2 ?e3 ..
      (case e1 => PySem.W.k_is)                    -- in the order: a name -> its address -> its object -> its parts
      (case e2 => PySem.W.k_is)
      ..
    obtain ⟨t, T⟩ := T
    have e0 := hmg.symm.trans (PySem.W.mg_of KX G T.law)
    cases e0                                       -- fa is the law's own address
    exact ⟨_, fun s u => .of_eq rfl, fun base kb nb => My.law_fn T kb nb⟩     -- if «.of_eq rfl» comes too early: refine' ⟨_, ?b, fun base kb nb => My.law_fn T kb nb⟩; exact fun s u => .of_eq rfl
  case S => exact fun w H a ns hl hO hS => ..
  case C => exact ..
(the tactic k_is has no namespace: write k_is) -/
namespace L2
open PySem PySem.Spec PyProof.Rows
def defArgs (s : Stmt) : Arguments := match s with
  | .FunctionDef _ a _ _ _ _ _ _ _ _ => a
  | _ => { posonlyargs := [], args := [], vararg := none, kwonlyargs := [], kw_defaults := [], kwarg := none, defaults := [] }
def defBody (s : Stmt) : List Stmt := match s with
  | .FunctionDef _ _ b _ _ _ _ _ _ _ => b
  | _ => []
def defScope (s : Stmt) : Scope := match s with
  | .FunctionDef _ _ _ _ _ _ sc _ _ _ => sc
  | _ => { kind := .function, names := [], isGenerator := false, isCoroutine := false }
abbrev CX0 : CXT := fun _ _ _ _ _ _ => False
abbrev E0 : XK := fun _ _ _ => False
theorem pass0 {X : Cx} : Passes CX0 X E0 := fun _ _ _ _ _ _ _ h => h.elim
structure Fun (K : PySem.W.Frag) (x qual : Str) (st : Stmt) (f : Addr) (fd : FuncData) : Prop where
  ex : ∃ (oc : Value) (od : Option Addr) (kV doc pm : Value) (an : Option Addr) (cdv ct : Value) (osl : Array (Option Value)),
    fd = PySem.W.fnOf x qual (defArgs st) (defBody st) (defScope st) .none kV doc pm an cdv ct ∧ K.lookup f = some ⟨oc, od, .func fd, osl⟩ ∧ PySem.W.codeIn K cdv qual = true
  kp : PySem.W.keepIn K (.ref f) = true
section
variable {P : Program} {w : World} {K : PySem.W.Frag} {mg : Str → Option Value} {base : Heap}
theorem Fun.ok {x qual : Str} {st : Stmt} {f : Addr} {fd : FuncData} {N ps : List Str} {k : Nat} {sp : Sp} (F : Fun K x qual st f fd) (S : FnScope N ps (defScope st)) (len : ∀ vs H Q E, sp vs H Q E → vs.length = ps.length)
    (hbody : ∀ (cdv : Value) (A : Around) (outer : List Env) (s : Shared) (H : Hp) (vs : List V) (Q : VK) (E : XK), Room k (A.deeper (envOfC qual (defScope st) s.heap.objs.size f cdv)) → sp vs H Q E →
      ∃ t, PSs (cxOf CX0 P w K mg base N qual (defScope st) f cdv A outer s H E).nox (defBody st) t ∧ t { nx := fun _ H' => Q .non H', rt := Q } (start N vs) H) : FnOk P w K mg base CX0 (k + 1) f fd ps sp := by
  obtain ⟨oc, od, kV, doc, pm, an, cdv, ct, osl, rfl, lk, hcd⟩ := F.ex
  refine fn_of lk hcd S len fun A outer s H vs Q E hr hsp => ?_
  obtain ⟨t, h, q⟩ := hbody cdv A outer s H vs Q E hr hsp
  exact ⟨t, h.nox, q⟩
theorem Fun.binds {x qual : Str} {st : Stmt} {f : Addr} {fd : FuncData} {ps : List Str} (F : Fun K x qual st f fd)
    (h : ∀ (kV doc pm : Value) (an : Option Addr) (cdv ct : Value) (us : List Value), us.length = ps.length → bindArgs (PySem.W.fnOf x qual (defArgs st) (defBody st) (defScope st) .none kV doc pm an cdv ct) ⟨us, []⟩ = pure (ps.zip us)) : Binds K fd ps [] := by
  obtain ⟨oc, od, kV, doc, pm, an, cdv, ct, osl, rfl, lk, hcd⟩ := F.ex
  exact .all (h kV doc pm an cdv ct)
theorem fun_mk {x qual : Str} {st : Stmt} {f : Addr} {oc : Value} {od an : Option Addr} {osl : Array (Option Value)} {kV doc pm cdv ct : Value} (l : K.lookup f = some ⟨oc, od, .func (PySem.W.fnOf x qual (defArgs st) (defBody st) (defScope st) .none kV doc pm an cdv ct), osl⟩)
    (c : PySem.W.codeIn K cdv qual = true) (k : PySem.W.keepIn K (.ref f) = true) : Fun K x qual st f (PySem.W.fnOf x qual (defArgs st) (defBody st) (defScope st) .none kV doc pm an cdv ct) := ⟨⟨oc, od, kV, doc, pm, an, cdv, ct, osl, rfl, l, c⟩, k⟩
end
theorem hu_of {A : Around} {k : Nat} (hr : Room k A) : A.units + 1 < cLine := Nat.lt_of_le_of_lt (Nat.add_le_add_left (by decide : 1 ≤ 64) _) hr.units
theorem small1000 {n : Nat} (h : n ≤ 1000) : n < sizeLine := Nat.lt_of_le_of_lt h (by decide)
section
variable {X : Cx}
theorem pv (i : Nat) {x : Str} {pos : Pos} (hN : X.N[i]? = some x := by rfl) (hv : Vis X.env.scope x := by first | exact Or.inl rfl | exact Or.inr (Or.inl rfl) | exact Or.inr (Or.inr rfl)) (hd : (x == ("__debug__" : Str)) = false := by decide)
    (hcd : (x == ("__classdict__" : Str)) = false := by decide) : PE X (.Name x pos) (tVar i) := pe_var hN hv hd hcd
end
theorem iteF {A B : Prop} (h : B) : if false = true then A else B := by
  rw [if_neg Bool.false_ne_true]
  exact h
theorem iteT {A B : Prop} (h : A) : if true = true then A else B := by
  rw [if_pos rfl]
  exact h
theorem ite2 {c A B : Prop} [Decidable c] (h1 : c → A) (h2 : ¬ c → B) : if c then A else B := by
  by_cases h : c
  · rw [if_pos h]
    exact h1 h
  · rw [if_neg h]
    exact h2 h
def Same (H H' : Hp) : Prop := ∀ b o, H b = some o → H' b = some o
theorem Same.refl (H : Hp) : Same H H := fun _ _ h => h
theorem Same.trans {H H1 H2 : Hp} (a : Same H H1) (b : Same H1 H2) : Same H H2 := fun c o h => b c o (a c o h)
theorem Same.free {H H' : Hp} (e : Same H H') {l : Addr} (h : H' l = Option.none) : H l = Option.none := by
  cases q : H l with
  | none => rfl
  | some o =>
    rw [e l o q] at h
    cases h
theorem Same.seq {K : PySem.W.Frag} {H H' : Hp} {a : Addr} {xs : List V} (e : Same H H') (h : SqL K H a xs) : SqL K H' a xs := by
  rcases h with (h | ⟨o, h⟩) | h
  · exact .inl (.inl (e _ _ h))
  · exact .inl (.inr ⟨o, e _ _ h⟩)
  · exact .inr h
end L2
set_option linter.all false
namespace L2
open PySem PySem.Spec PyProof.Rows
section
variable {κ : Type} [DecidableEq κ]
def valV (kvs : List (κ × V)) (k : κ) : Option V := (kvs.find? fun kv => decide (kv.1 = k)).map (·.2)
def putK (kvs : List (κ × V)) (k : κ) (v : V) : List (κ × V) :=
  if (kvs.any fun kv => decide (kv.1 = k)) = true then kvs.map (fun kv => if kv.1 = k then (kv.1, v) else kv) else kvs ++ [(k, v)]
def dropK (kvs : List (κ × V)) (k : κ) : List (κ × V) := kvs.filter fun kv => decide (kv.1 ≠ k)
theorem valV_pos {p : κ × V} {r : List (κ × V)} {k : κ} (e : p.1 = k) : valV (p :: r) k = some p.2 := by simp [valV, List.find?_cons, e]
theorem valV_neg {p : κ × V} {r : List (κ × V)} {k : κ} (e : ¬ p.1 = k) : valV (p :: r) k = valV r k := by simp [valV, List.find?_cons, e]
theorem valV_any (k : κ) : ∀ kvs : List (κ × V), (kvs.any fun kv => decide (kv.1 = k)) = (valV kvs k).isSome
  | [] => rfl
  | p :: r => by
    rw [List.any_cons]
    by_cases e : p.1 = k
    · simp only [valV_pos e, decide_eq_true e, Bool.true_or, Option.isSome_some]
    · rw [valV_neg e, decide_eq_false e, Bool.false_or]; exact valV_any k r
theorem length_putK (kvs : List (κ × V)) (k : κ) (v : V) : (putK kvs k v).length ≤ kvs.length + 1 := by
  unfold putK
  split
  · rw [List.length_map]; omega
  · rw [List.length_append, List.length_cons, List.length_nil]; omega
theorem putK_new {kvs : List (κ × V)} {k : κ} (v : V) (h : valV kvs k = none) : putK kvs k v = kvs ++ [(k, v)] := by
  unfold putK
  rw [valV_any, h]
  exact if_neg (by decide)
theorem RelO.isSome_eq {o : Option V} {u : Option Value} (r : RelO o u) : o.isSome = u.isSome := by
  cases o with
  | none => cases u with
    | none => rfl
    | some _ => exact (show False from r).elim
  | some _ => cases u with
    | none => exact (show False from r).elim
    | some _ => rfl
theorem RelO.getD {o : Option V} {u : Option Value} {d : V} {d' : Value} (r : RelO o u) (rd : RelV d d') : RelV (o.getD d) (u.getD d') := by
  cases o with
  | none => cases u with
    | none => exact rd
    | some _ => exact (show False from r).elim
  | some _ => cases u with
    | none => exact (show False from r).elim
    | some _ => exact r
theorem KV.val {kvs : List (κ × V)} {vs : List (κ × Value)} (r : KV kvs vs) (k : κ) : RelO (valV kvs k) (valueAt vs k) := by
  unfold KV at r
  induction r with
  | nil => exact True.intro
  | @cons p q ps qs h t ih =>
    obtain ⟨h1, h2⟩ := h
    by_cases e : p.1 = k
    · have e' : q.1 = k := h1.symm.trans e
      have b : valueAt (q :: qs) k = some q.2 := by simp [valueAt, List.find?_cons, e']
      rw [valV_pos e, b]; exact h2
    · have e' : ¬ q.1 = k := fun z => e (h1.trans z)
      have b : valueAt (q :: qs) k = valueAt qs k := by simp [valueAt, List.find?_cons, e']
      rw [valV_neg e, b]; exact ih
theorem KV.any {kvs : List (κ × V)} {vs : List (κ × Value)} (r : KV kvs vs) (k : κ) : (kvs.any fun kv => decide (kv.1 = k)) = vs.any fun kv => decide (kv.1 = k) := by
  unfold KV at r
  induction r with
  | nil => rfl
  | cons h t ih => rw [List.any_cons, List.any_cons, ih, h.1]
theorem KV.repl {kvs : List (κ × V)} {vs : List (κ × Value)} (r : KV kvs vs) (k : κ) {y : V} {u : Value} (ry : RelV y u) :
    KV (kvs.map fun kv => if kv.1 = k then (kv.1, y) else kv) (vs.map fun kv => if kv.1 = k then (kv.1, u) else kv) := by
  unfold KV at r ⊢
  induction r with
  | nil => exact .nil
  | @cons p q ps qs h t ih =>
    rw [List.map_cons, List.map_cons]
    refine .cons ?_ ih
    obtain ⟨h1, h2⟩ := h
    by_cases e : p.1 = k
    · rw [if_pos e, if_pos (h1.symm.trans e)]; exact ⟨h1, ry⟩
    · rw [if_neg e, if_neg (fun z => e (h1.trans z))]; exact ⟨h1, h2⟩
theorem KV.put {kvs : List (κ × V)} {vs : List (κ × Value)} (r : KV kvs vs) (k : κ) {y : V} {u : Value} (ry : RelV y u) : KV (putK kvs k y) (stored vs k u) := by
  unfold putK stored
  rw [r.any k]
  by_cases e : (vs.any fun kv => decide (kv.1 = k)) = true
  · rw [if_pos e, if_pos e]; exact r.repl k ry
  · rw [if_neg e, if_neg e]; exact Paired.snoc r ⟨rfl, ry⟩
theorem KV.drop {kvs : List (κ × V)} {vs : List (κ × Value)} (r : KV kvs vs) (k : κ) : KV (dropK kvs k) (without vs k) := by
  unfold KV at r ⊢
  unfold dropK without
  induction r with
  | nil => exact .nil
  | @cons p q ps qs h t ih =>
    obtain ⟨h1, h2⟩ := h
    rw [List.filter_cons, List.filter_cons]
    by_cases e : p.1 = k
    · have a : ¬ decide (p.1 ≠ k) = true := by simp [e]
      have b : ¬ decide (q.1 ≠ k) = true := by simp [h1.symm.trans e]
      rw [if_neg a, if_neg b]; exact ih
    · have e' : ¬ q.1 = k := fun z => e (h1.trans z)
      have a : decide (p.1 ≠ k) = true := by simp [e]
      have b : decide (q.1 ≠ k) = true := by simp [e']
      rw [if_pos a, if_pos b]; exact .cons ⟨h1, h2⟩ ih
theorem KV.keys {kvs : List (κ × V)} {vs : List (κ × Value)} (r : KV kvs vs) : kvs.map (·.1) = vs.map (·.1) := by
  unfold KV at r
  induction r with
  | nil => rfl
  | cons h t ih => rw [List.map_cons, List.map_cons, ih, h.1]
theorem KV.length {kvs : List (κ × V)} {vs : List (κ × Value)} (r : KV kvs vs) : kvs.length = vs.length := Paired.length r
end
theorem kV_is {P : Program} {w : World} {k : Key} {u : Value} (r : RelV (kV k) u) : (mixKind P w).is k u = true := by
  cases k with
  | inl i => obtain ⟨t, e⟩ := (show ∃ t, u = Value.int i t from r); subst e; exact mixKind_int P w i t
  | inr x => obtain ⟨t, e⟩ := (show ∃ t, u = Value.str x t from r); subst e; exact mixKind_str P w x t
theorem items_are {P : Program} {w : World} : ∀ {ks : List Key} {us : List Value}, Vals (ks.map kV) us → ItemsAre (mixKind P w) ks us
  | [], _, r => by rw [List.map_nil] at r; cases r; exact .nil
  | k :: ks, _, r => by
    rw [List.map_cons] at r
    cases r with
    | cons h t => exact .cons (kV_is h) (items_are t)
abbrev KT (H : Hp) : List (List Key × V) → List (List Key × Addr × Value) → Prop := Paired fun p q => p.1 = q.1 ∧ H q.2.1 = some (.tup (p.1.map kV)) ∧ RelV p.2 q.2.2
theorem KT.val {H : Hp} {kvs : List (List Key × V)} {xs : List (List Key × Addr × Value)} (r : KT H kvs xs) (k : List Key) : RelO (valV kvs k) ((atKey xs k).map (·.2)) := by
  induction r with
  | nil => exact True.intro
  | @cons p q ps qs h t ih =>
    obtain ⟨h1, _, h2⟩ := h
    by_cases e : p.1 = k
    · have e' : q.1 = k := h1.symm.trans e
      have b : atKey (q :: qs) k = some q.2 := by simp [atKey, List.find?_cons, e']
      rw [valV_pos e, b]; exact h2
    · have e' : ¬ q.1 = k := fun z => e (h1.trans z)
      have b : atKey (q :: qs) k = atKey qs k := by simp [atKey, List.find?_cons, e']
      rw [valV_neg e, b]; exact ih
theorem KT.repl {H : Hp} {kvs : List (List Key × V)} {xs : List (List Key × Addr × Value)} (r : KT H kvs xs) (k : List Key) {y : V} {u : Value} (ry : RelV y u) :
    KT H (kvs.map fun kv => if kv.1 = k then (kv.1, y) else kv) (xs.map (putAt k u)) := by
  induction r with
  | nil => exact .nil
  | @cons p q ps qs h t ih =>
    rw [List.map_cons, List.map_cons]
    refine .cons ?_ ih
    obtain ⟨h1, h2, h3⟩ := h
    unfold putAt
    by_cases e : p.1 = k
    · rw [if_pos e, if_pos (h1.symm.trans e)]; exact ⟨h1, h2, ry⟩
    · rw [if_neg e, if_neg (fun z => e (h1.trans z))]; exact ⟨h1, h2, h3⟩
theorem KT.put {H : Hp} {kvs : List (List Key × V)} {xs : List (List Key × Addr × Value)} (r : KT H kvs xs) (k : List Key) {b : Addr} {y : V} {u : Value} (hb : H b = some (.tup (k.map kV))) (ry : RelV y u) :
    KT H (putK kvs k y) (storedH xs k b u) := by
  have e : (kvs.any fun kv => decide (kv.1 = k)) = (atKey xs k).isSome := by
    rw [valV_any, (r.val k).isSome_eq, Option.isSome_map]
  unfold putK storedH
  rw [e]
  by_cases q : (atKey xs k).isSome = true
  · rw [if_pos q, if_pos q]; exact r.repl k ry
  · rw [if_neg q, if_neg q]; exact Paired.snoc r ⟨rfl, hb, ry⟩
theorem KT.keeps {H H' : Hp} {kvs : List (List Key × V)} {xs : List (List Key × Addr × Value)} (r : KT H kvs xs) (ht : ∀ b ys, H b = some (.tup ys) → H' b = some (.tup ys)) : KT H' kvs xs :=
  Paired.mapP r fun _ _ z => ⟨z.1, ht _ _ z.2.1, z.2.2⟩
section
variable {P : Program} {w : World} {H : Hp} {h : Heap} {a : Addr}
theorem rd_of {u : HO} (ok : HOk P w H h) (e : Rd H a u) : ObjOk P w H h a u := e.ok ok
theorem dk_rd {kvs : List (Key × V)} (ok : HOk P w H h) (e : Rd H a (.dK kvs)) : kvs.length ≤ sizeLine ∧ (a == sysModules) = false ∧ ∃ vs, KV kvs vs ∧ h.DictOf (mixKind P w) a vs :=
  show ObjOk P w H h a (.dK kvs) from rd_of ok e
theorem dk_of {kvs : List (Key × V)} (ok : HOk P w H h) (e : H a = some (.dK kvs)) : kvs.length ≤ sizeLine ∧ (a == sysModules) = false ∧ ∃ vs, KV kvs vs ∧ h.DictOf (mixKind P w) a vs := dk_rd ok (.inl e)
theorem key_of {ks : List Key} (ok : HOk P w H h) (e : H a = some (.tup (ks.map kV))) : (tupleKind (mixKind P w)).is h ks a := by
  obtain ⟨_, its, r, o, h1, h2, n, h3⟩ := (show ObjOk P w H h a (.tup (ks.map kV)) from ok a _ e)
  exact ⟨o, its.toArray, n, h1, h2, h3, by simpa using items_are r⟩
theorem dt_rd {kvs : List (List Key × V)} (ok : HOk P w H h) (e : Rd H a (.dT kvs)) : kvs.length ≤ sizeLine ∧ (a == sysModules) = false ∧
    ∃ xs, KT H kvs xs ∧ h.DictOfH (tupleKind (mixKind P w)) a xs := by
  obtain ⟨z, y, xs, r, o, es, ep, h1, h2, h3, h4, h5⟩ := (show ObjOk P w H h a (.dT kvs) from rd_of ok e)
  refine ⟨z, y, xs, r, o, es, ep, h1, h2, h3, h4, fun x hx => ?_, h5⟩
  have all : ∀ {l : List (List Key × V)} {m : List (List Key × Addr × Value)}, KT H l m → ∀ x ∈ m, (tupleKind (mixKind P w)).is h x.1 x.2.1 := by
    intro l m q
    induction q with
    | nil => intro x hx; exact nomatch hx
    | @cons p q ps qs hq t ih =>
      intro x hx
      rcases List.mem_cons.mp hx with e | hx
      · subst e
        exact key_of ok (by rw [← hq.1]; exact hq.2.1)
      · exact ih x hx
  exact all r x hx
end
def DGet (H : Hp) (a : Addr) (y : V) (r : Option V) : Prop :=
  (∃ kvs k, Rd H a (.dK kvs) ∧ y = kV k ∧ r = valV kvs k) ∨ ∃ kvs k b, Rd H a (.dT kvs) ∧ y = .ref b ∧ H b = some (.tup (k.map kV)) ∧ r = valV kvs k
def DPut (H : Hp) (a : Addr) (y v : V) (H' : Hp) : Prop :=
  (∃ kvs k, H a = some (.dK kvs) ∧ y = kV k ∧ kvs.length < sizeLine ∧ H' = upd H a (.dK (putK kvs k v))) ∨
  ∃ kvs k b, H a = some (.dT kvs) ∧ y = .ref b ∧ H b = some (.tup (k.map kV)) ∧ kvs.length < sizeLine ∧ H' = upd H a (.dT (putK kvs k v))
theorem DGet.k {H : Hp} {a : Addr} {kvs : List (Key × V)} {k : Key} (e : H a = some (.dK kvs)) : DGet H a (kV k) (valV kvs k) := .inl ⟨kvs, k, .inl e, rfl, rfl⟩
theorem DGet.t {H : Hp} {a b : Addr} {kvs : List (List Key × V)} {k : List Key} (e : H a = some (.dT kvs)) (eb : H b = some (.tup (k.map kV))) : DGet H a (.ref b) (valV kvs k) := .inr ⟨kvs, k, b, .inl e, rfl, eb, rfl⟩
theorem DPut.k {H : Hp} {a : Addr} {kvs : List (Key × V)} {k : Key} {v : V} (e : H a = some (.dK kvs)) (hl : kvs.length < sizeLine) : DPut H a (kV k) v (upd H a (.dK (putK kvs k v))) := .inl ⟨kvs, k, e, rfl, hl, rfl⟩
theorem DPut.t {H : Hp} {a b : Addr} {kvs : List (List Key × V)} {k : List Key} {v : V} (e : H a = some (.dT kvs)) (eb : H b = some (.tup (k.map kV))) (hl : kvs.length < sizeLine) :
    DPut H a (.ref b) v (upd H a (.dT (putK kvs k v))) := .inr ⟨kvs, k, b, e, rfl, eb, hl, rfl⟩
section
variable {X : Cx} {pins : List (Addr × Obj)} {σ : St} {H : Hp} {s : Shared} {a : Addr} {y v : V} {u r : Value} {o : Option V} {A : Around} {E : Value → Shared → Prop}
theorem Inv.big (I : Inv X pins σ H s) : sysModules < s.heap.objs.size := by
  have h : mainGlobals < s.heap.objs.size := (I.mod.glob.keeps I.bk).lt
  exact Nat.lt_trans (by decide) h
theorem d_getItem {Q : Value → Shared → Prop} (hu : A.units + 1 < cLine) (I : Inv X pins σ H s) (g : DGet H a y (some v)) (ry : RelV y u) (h : ∀ w' s', Inv X pins σ H s' → RelV v w' → Q w' s') :
    wpAny (model X.prog X.w) A (getItem (.ref a) u) Q E s := by
  rcases g with ⟨kvs, k, e, ey, l⟩ | ⟨kvs, k, b, e, ey, eb, l⟩
  · subst ey
    obtain ⟨z, hd, vs, rel, dd⟩ := dk_rd I.hok e
    obtain ⟨w', hw, rw'⟩ := RelO.some_of (v := v) (o := valueAt vs k) (by rw [l]; exact rel.val k)
    exact wpAny_getItem_of (kV_is ry) dd.mapOf hw (h w' _ (I.tok _) rw')
  · subst ey
    cases (show u = Value.ref b from ry)
    obtain ⟨z, hd, xs, rel, dd⟩ := dt_rd I.hok e
    obtain ⟨w', hw, rw'⟩ := RelO.some_of (v := v) (o := (atKey xs k).map (·.2)) (by rw [l]; exact rel.val k)
    obtain ⟨p, hp, hp2⟩ := Option.map_eq_some_iff.mp hw
    refine wpAny_getItem_heap (tupleKind_room_in1 hu) (key_of I.hok eb) dd hp ?_
    rw [hp2]
    exact h w' _ (I.tok _) rw'
theorem dk_new {P : Program} {w : World} {H' : Hp} {h' : Heap} {kvs : List (Key × V)} {vs : List (Key × Value)} (z : kvs.length ≤ sizeLine) (hd : (a == sysModules) = false) (rel : KV kvs vs) (dd : h'.DictOf (mixKind P w) a vs) :
    ObjOk P w H' h' a (.dK kvs) := ⟨z, hd, vs, rel, dd⟩
end
section
variable {X : Cx} {pins : List (Addr × Obj)} {σ : St} {H : Hp} {s : Shared} {a : Addr} {kvs : List (Key × V)} {k : Key} {u : Value} {A : Around} {E : Value → Shared → Prop}
end
def NoSl (i : Expr) : Prop := ∀ ov iv, subscripted i false ov iv = operate [ov, iv] (getItem ov iv)
theorem subD_of {prog : Program} {w : World} {A : Around} {E : Value → Shared → Prop} {s : Shared} {env : Env} {value slice : Expr} {pos : Pos} {T id : String} {Q : Value → Shared → Prop}
    (hl : typeLookup (.type T) "__getitem__" = pure (some (.builtin id))) (hs : NoSl slice)
    (h : wpAny (model prog w) A (eval value env) (fun o s₁ => wpAny (model prog w) A (eval slice env) (fun i s₂ => s₂.TypeIs o T ∧ wpAny (model prog w) A (getItem o i) Q E s₂) E s₁) E s) :
    wpAny (model prog w) A (eval (.Subscript value slice pos) env) Q E s := by
  refine Subscript_ (wpAny_mono h (fun o s₁ h₁ => wpAny_mono h₁ (fun i s₂ h₂ => ?_) fun _ _ x => x) fun _ _ x => x)
  obtain ⟨hT, h₂⟩ := h₂
  unfold subscriptTail
  refine wpAny_bind ?_
  rw [getitemInPython_of_ne hT.not_modules]
  refine wpAny_bind (wpAny_specialOf hT hl ?_)
  have fin : wpAny (model prog w) A (subscripted slice false o i) (fun r s₃ => wpAny (model prog w) A (letTemporaryGo value o r >>= fun _ => pure r) Q E s₃) E s₂ := by
    rw [hs o i]
    exact wpAny_operating (wpAny_mono h₂ (fun r s₃ h₃ => wpAny_bind (wpAny_letTemporaryGo (wpAny_pure h₃))) fun _ _ x => x)
  first
    | exact wpAny_pure (wpAny_bind fin)
    | exact wpAny_bind (wpAny_pure (wpAny_bind fin))
    | exact wpAny_bind fin
theorem dict_typeIs {X : Cx} {pins : List (Addr × Obj)} {σ : St} {H : Hp} {s : Shared} {a : Addr} {y : V} {o : Option V} (I : Inv X pins σ H s) (g : DGet H a y o) : s.TypeIs (.ref a) "dict" := by
  rcases g with ⟨kvs, k, e, _, _⟩ | ⟨kvs, k, b, e, _, _, _⟩
  · obtain ⟨_, _, vs, _, dd⟩ := dk_rd I.hok e
    exact dd.typeIs
  · obtain ⟨_, _, xs, _, dd⟩ := dt_rd I.hok e
    exact dd.typeIs
def tDGet (td ty : TE) : TE := fun σ H Q => td σ H fun x H1 => ty σ H1 fun y H2 => ∃ a v, x = .ref a ∧ DGet H2 a y (some v) ∧ Q v H2
section
variable {X : Cx} {o i e value : Expr} {pos pos' tpos : Pos} {td ty tv : TE}
theorem pe_dget (hu : X.A.units + 1 < cLine) (ho : PE X o td) (hi : PE X i ty) (hs : NoSl i) : PE X (.Subscript o i pos) (tDGet td ty) := by
  intro pins s σ H Q I h
  refine subD_of PySem.F.slot_dict_getitem.lookup hs (thn (ho pins s σ H _ I h) fun u s1 ⟨x, H1, I1, rx, q1⟩ => thn (hi pins s1 σ H1 _ I1 q1) fun iv s2 ⟨y, H2, I2, ry, a, v, ex, g, q2⟩ => ?_)
  subst ex
  obtain rfl : u = Value.ref a := rx
  exact ⟨dict_typeIs I2 g, d_getItem hu I2 g ry fun w' s3 I3 rw' => ⟨v, H2, I3, rw', q2⟩⟩
end
section
variable {X : Cx} {pos : Pos}
end
structure M1 (X : Cx) (o : Expr) (m : Str) (apos : Pos) (e : Expr) (cpos : Pos) : Prop where
  base : attributeBase o m X.env (eval o X.env) = eval o X.env
  few : ((backTo cpos (starEach [e] X.env)).all (fun x => !x.1) && (backToKw cpos (keywordEach [] X.env)).all (fun x => x.1.isSome)
    && decide (([e] : List Expr).length + ([] : List Keyword).length + (if ([] : List Keyword).isEmpty then 0 else 1) < 30)) = true
  line : (apos.endLine == cpos.line) = true
  trees : backTo cpos (starEach [e] X.env) = [(false, eval e X.env)]
structure M2 (X : Cx) (o : Expr) (m : Str) (apos : Pos) (e f : Expr) (cpos : Pos) : Prop where
  base : attributeBase o m X.env (eval o X.env) = eval o X.env
  few : ((backTo cpos (starEach [e, f] X.env)).all (fun x => !x.1) && (backToKw cpos (keywordEach [] X.env)).all (fun x => x.1.isSome)
    && decide (([e, f] : List Expr).length + ([] : List Keyword).length + (if ([] : List Keyword).isEmpty then 0 else 1) < 30)) = true
  line : (apos.endLine == cpos.line) = true
  trees : backTo cpos (starEach [e, f] X.env) = [(false, eval e X.env), (false, eval f X.env)]
section
variable {X : Cx} {pins : List (Addr × Obj)} {σ : St} {H : Hp} {s : Shared} {a : Addr} {y d : V} {u r : Value} {o : Option V} {A : Around} {E : Value → Shared → Prop}
end
section
variable {X : Cx} {o e f : Expr} {apos cpos : Pos} {td ty tx : TE}
end
section
variable {X : Cx} {pins : List (Addr × Obj)} {σ : St} {H : Hp} {s : Shared} {a : Addr} {kvs : List (Key × V)} {A : Around} {E : Value → Shared → Prop}
end
section
variable {X : Cx} {pins : List (Addr × Obj)} {σ : St} {H : Hp} {s : Shared} {a : Addr} {y : V} {u : Value} {A : Around} {E : Value → Shared → Prop}
end
end L2
namespace L2
open PySem PySem.Spec PyProof.Rows
section
variable {X : Cx}
end
section
variable {κ : Type} [DecidableEq κ]
end
end L2
namespace L2
open PySem PySem.Spec PyProof.Rows
def closL (cells : List (Str × Addr)) : List (Str × NameKind) → List (Str × Addr) → List (Str × Addr)
  | [], acc => acc
  | (n, k) :: r, acc => if k == .free then closL cells r ((n, (cells.lookup n).getD 0) :: acc) else closL cells r acc
theorem clos_forIn (env : Env) (f : Str × NameKind → List (Str × Addr) → Sem (ForInStep (List (Str × Addr))))
    (hf : ∀ n k cs, f (n, k) cs = if k == .free then (do let a ← cellOf env n; pure (.yield ((n, a) :: cs))) else pure (.yield cs)) :
    ∀ (names : List (Str × NameKind)) (acc : List (Str × Addr)), (∀ x ∈ names, x.2 = .free → ∃ c, env.cells.lookup x.1 = some c) → forIn names acc f = pure (closL env.cells names acc)
  | [], acc, _ => by rw [List.forIn_nil]; rfl
  | (n, k) :: r, acc, h => by
    have ih := clos_forIn env f hf r
    rw [List.forIn_cons, hf]
    unfold closL
    by_cases hk : (k == NameKind.free) = true
    · rw [if_pos hk, if_pos hk]
      obtain ⟨c, hc⟩ := h (n, k) List.mem_cons_self (by simpa using hk)
      have e : cellOf env n = pure c := by unfold cellOf; rw [hc]
      rw [e, hc]
      exact ih _ fun x hx => h x (List.mem_cons_of_mem _ hx)
    · rw [if_neg hk, if_neg hk]
      exact ih _ fun x hx => h x (List.mem_cons_of_mem _ hx)
theorem closureFor_eq {scope : Scope} {env : Env} (h : ∀ x ∈ scope.names, x.2 = .free → ∃ c, env.cells.lookup x.1 = some c) : closureFor scope env = pure (closL env.cells scope.names []) := by
  simp only [closureFor]
  rw [clos_forIn env _ (fun n k cs => by cases hk : k == NameKind.free <;> simp [hk]) scope.names [] h]
  rfl
theorem closL_mem {cells : List (Str × Addr)} : ∀ {names : List (Str × NameKind)} {acc : List (Str × Addr)} {x : Str} {c : Addr}, (x, c) ∈ closL cells names acc → (x, c) ∈ acc ∨ ((x, NameKind.free) ∈ names ∧ c = (cells.lookup x).getD 0)
  | [], acc, x, c, h => .inl h
  | (n, k) :: r, acc, x, c, h => by
    unfold closL at h
    by_cases hk : (k == NameKind.free) = true
    · rw [if_pos hk] at h
      rcases closL_mem h with q | ⟨q, e⟩
      · rcases List.mem_cons.mp q with z | z
        · cases z
          exact .inr ⟨by rw [show NameKind.free = k from (by simpa using hk : k = NameKind.free).symm]; exact List.mem_cons_self, rfl⟩
        · exact .inl z
      · exact .inr ⟨List.mem_cons_of_mem _ q, e⟩
    · rw [if_neg hk] at h
      rcases closL_mem h with q | ⟨q, e⟩
      · exact .inl q
      · exact .inr ⟨List.mem_cons_of_mem _ q, e⟩
theorem lookup_cons_some {α : Type} {x n : Str} {c : α} {l : List (Str × α)} (h : (l.lookup x).isSome = true) : (((n, c) :: l).lookup x).isSome = true := by
  rw [List.lookup_cons]
  cases x == n <;> simp [h]
theorem closL_some {cells : List (Str × Addr)} {x : Str} : ∀ {names : List (Str × NameKind)} {acc : List (Str × Addr)}, ((x, NameKind.free) ∈ names ∨ (acc.lookup x).isSome = true) → ((closL cells names acc).lookup x).isSome = true
  | [], acc, h => by
    rcases h with h | h
    · cases h
    · exact h
  | (n, k) :: r, acc, h => by
    unfold closL
    by_cases hk : (k == NameKind.free) = true
    · rw [if_pos hk]
      refine closL_some ?_
      rcases h with h | h
      · rcases List.mem_cons.mp h with z | z
        · cases z; exact .inr (by rw [List.lookup_cons]; simp)
        · exact .inl z
      · exact .inr (lookup_cons_some h)
    · rw [if_neg hk]
      refine closL_some ?_
      rcases h with h | h
      · rcases List.mem_cons.mp h with z | z
        · cases z; exact absurd rfl hk
        · exact .inl z
      · exact .inr h
theorem cellsFrom_mem : ∀ {names : List (Str × NameKind)} {n : Nat} {acc : List (Str × Addr)} {x : Str} {c : Addr}, (x, c) ∈ cellsFrom n names acc → (x, c) ∈ acc ∨ (x, NameKind.cell) ∈ names
  | [], _, _, _, _, h => .inl h
  | (y, k) :: r, n, acc, x, c, h => by
    unfold cellsFrom at h
    by_cases hk : (k == NameKind.cell) = true
    · rw [if_pos hk] at h
      rcases cellsFrom_mem h with q | q
      · rcases List.mem_cons.mp q with z | z
        · cases z
          exact .inr (by rw [show NameKind.cell = k from (by simpa using hk : k = NameKind.cell).symm]; exact List.mem_cons_self)
        · exact .inl z
      · exact .inr (List.mem_cons_of_mem _ q)
    · rw [if_neg hk] at h
      rcases cellsFrom_mem h with q | q
      · exact .inl q
      · exact .inr (List.mem_cons_of_mem _ q)
structure CellsTwo (h : Heap) (lo : Nat) (acc cs : List (Str × Addr)) : Prop where
  part : ∀ x c, (x, c) ∈ cs → (x, c) ∈ acc ∨ (h.IsCell c none ∧ lo ≤ c)
  inj : ∀ x y c, lo ≤ c → (x, c) ∈ cs → (y, c) ∈ cs → x = y
theorem cellsFrom_two {acc0 : List (Str × Addr)} : ∀ (names : List (Str × NameKind)) (h : Heap) (lo : Nat) (acc : List (Str × Addr)), CellsTwo h lo acc0 acc → (∀ x c, (x, c) ∈ acc → c < h.objs.size) → lo ≤ h.objs.size →
    CellsTwo (pushCells h names) lo acc0 (cellsFrom h.objs.size names acc)
  | [], _, _, _, x, _, _ => x
  | (name, kind) :: r, h, lo, acc, x, hl, hlo => by
    unfold pushCells cellsFrom
    split
    · have := cellsFrom_two (acc0 := acc0) r (h.push { cls := .type "cell", data := .cell none }) lo ((name, h.objs.size) :: acc)
        ⟨fun n c hm => by
            rcases List.mem_cons.mp hm with e | hm
            · cases e; exact .inr ⟨⟨_, Heap.get?_push_size _ rfl, rfl⟩, hlo⟩
            · rcases x.part n c hm with q | q
              · exact .inl q
              · exact .inr ⟨q.1.keeps fun b o e => Heap.get?_push_of_some _ e, q.2⟩,
          fun a b c hc h1 h2 => by
            rcases List.mem_cons.mp h1 with e1 | h1 <;> rcases List.mem_cons.mp h2 with e2 | h2
            · cases e1; cases e2; rfl
            · cases e1; exact absurd (hl _ _ h2) (Nat.lt_irrefl _)
            · cases e2; exact absurd (hl _ _ h1) (Nat.lt_irrefl _)
            · exact x.inj a b c hc h1 h2⟩
        (fun n c hm => by
          rw [Heap.size_push]
          rcases List.mem_cons.mp hm with e | hm
          · cases e; exact Nat.lt_succ_self _
          · exact Nat.lt_succ_of_lt (hl n c hm)) (by rw [Heap.size_push]; omega)
      rwa [Heap.size_push] at this
    · exact cellsFrom_two r h lo acc x hl hlo
def cenvOf (env : Env) (scope : Scope) (C : Addr) : Env :=
  { scope := relabel scope env, locals := C, globals := env.globals, cells := cellsFrom (C + 1) scope.names (closL env.cells scope.names []), qual := env.qual, func := none, code := env.code, frame := env.frame, builtins := env.builtins }
theorem wpAny_compEnv {M : Model} {A : Around} {E : Value → Shared → Prop} {s : Shared} {scope : Scope} {env : Env} {cl : List (Str × Addr)} {Q : Env → Shared → Prop}
    (hQ : Q { scope := scope, locals := s.heap.objs.size, globals := env.globals, cells := cellsFrom (s.heap.objs.size + 1) scope.names cl, qual := env.qual, func := none, code := env.code, frame := env.frame, builtins := env.builtins }
      { s with heap := pushCells (s.heap.push { cls := .type "dict", data := .dict #[] }) scope.names }) :
    wpAny M A (newFunctionEnv scope env.globals cl [] env.qual none .none (some env)) Q E s := by
  simp only [newFunctionEnv, Option.isSome_some, if_true]
  refine wpAny_bind (wpAny_alloc ?_)
  refine wpAny_bind (wpAny_layCells _ (fun name kind cells => by cases hkc : kind == NameKind.cell <;> simp [hkc]) _ _ _ _ ?_)
  rw [show ({ s with heap := s.heap.push { cls := .type "dict", data := .dict #[] } } : Shared).heap.objs.size = s.heap.objs.size + 1 from Heap.size_push ..]
  rw [List.forIn_nil]
  exact wpAny_bind (wpAny_pure (wpAny_pure hQ))
theorem compLoop_any {prog : Program} {w : World} {A : Around} {R : Result → Shared → Prop} {s : Shared} {elt target iter : Expr} {ifs : List Expr} {scope : Scope} {pos : Pos} {it acc : Value} {env : Env} (I : Nat → Shared → Prop)
    (turn : ∀ n s, I n s → wpAny (model prog w) A (pyNext it) (fun r s₁ => match r with
      | none => R (.ok .next) s₁
      | some v => wpAny (model prog w) A (letOwnedTupleGo target it v) (fun _ s₁' => wpAny (model prog w) A (assign target env v) (fun _ s₂ =>
          wpAny (model prog w) A (forIn ifs true fun c r => if r = true then do let ok ← isTrue c env (eval c env); pure (ForInStep.yield ok) else pure (ForInStep.yield r)) (fun ok s₃ =>
            if ok = true then wpAny (model prog w) A (eval elt env) (fun x s₄ =>
              wpAny (model prog w) A (call (.builtin "list.append") [acc, x]) (fun _ s₅ => ∃ m, m < n ∧ I m s₅) (fun _ _ => False) s₄) (fun _ _ => False) s₃
            else ∃ m, m < n ∧ I m s₃) (fun _ _ => False) s₂) (fun _ _ => False) s₁') (fun _ _ => False) s₁) (fun _ _ => False) s)
    (n : Nat) (h : I n s) :
    codeAny (model prog w) A (.compLoop (.ListComp elt [⟨target, iter, ifs, 0⟩] scope pos) 0 it acc env) R s := by
  refine codeAny_loop rfl I (fun n s hI => ?_) n h
  show wpAny _ A ((compTurn (.ListComp elt [⟨target, iter, ifs, 0⟩] scope pos) 0 it acc env).onRaise (fun x => do noteFrame x env; theTreesLotGoes x)) _ _ s
  refine wpAny_noted ?_
  rw [compTurn_list]
  refine wpAny_bind (wpAny_standAt (wpAny_bind (wpAny_mono (turn n s hI) (fun r s₁ h₁ => ?_) fun _ _ h' => h'.elim)))
  cases r with
  | none => exact wpAny_pure h₁
  | some v =>
    refine wpAny_bind (wpAny_mono h₁ (fun _ s₁' h₁ => ?_) fun _ _ h' => h'.elim)
    refine wpAny_bind (wpAny_mono h₁ (fun _ s₂ h₂ => wpAny_bind (wpAny_mono h₂ (fun ok s₃ h₃ => ?_) fun _ _ h' => h'.elim)) fun _ _ h' => h'.elim)
    cases ok with
    | false => exact wpAny_pure ⟨rfl, h₃⟩
    | true =>
      exact wpAny_bind (wpAny_bind (wpAny_mono h₃ (fun x s₄ h₄ => wpAny_bind (wpAny_mono h₄ (fun _ s₅ h₅ => wpAny_pure (wpAny_pure ⟨rfl, h₅⟩)) fun _ _ h' => h'.elim)) fun _ _ h' => h'.elim))
end L2
namespace L2
open PySem PySem.Spec PyProof.Rows
def cmpOf (X : Cx) (scope : Scope) (N' : List Str) (C : Addr) (s : Shared) (H : Hp) (fp : List Addr) : Cx :=
  { X with N := N', s₀ := s, H₀ := H, env := cenvOf X.env scope C, outer := X.stack, stack := X.stack, ex := fp, fn := fun x => !(scope.names.lookup x == some .free), pn := [], xe := fun _ _ => False }
def subσ (sub : List (Option Nat)) (σ : St) : St := sub.map fun o => o.bind fun i => (σ[i]?).join
def cmpOkB (N : List Str) (sc : Scope) (N' : List Str) (scope : Scope) (sub : List (Option Nat)) : Bool :=
  scope.kind == .function && decide ((scope.names.map (·.1)).Nodup) && decide N'.Nodup && sub.length == N'.length &&
  (scope.names.all fun x => !(x.2 == .free) || sc.names.lookup x.1 == some .cell || sc.names.lookup x.1 == some .free) &&
  ((sub.zip N').all fun p => match p.1 with
    | none => true
    | some i => N[i]? == some p.2 && scope.names.lookup p.2 == some .free)
structure CmpOk (N : List Str) (sc : Scope) (N' : List Str) (scope : Scope) (sub : List (Option Nat)) : Prop where
  kind : scope.kind = .function
  nd : (scope.names.map (·.1)).Nodup
  nd' : N'.Nodup
  len : sub.length = N'.length
  free : ∀ x ∈ scope.names, x.2 = .free → sc.names.lookup x.1 = some .cell ∨ sc.names.lookup x.1 = some .free
  sub : ∀ (j i : Nat) (x : Str), sub[j]? = some (some i) → N'[j]? = some x → N[i]? = some x ∧ scope.names.lookup x = some .free
theorem CmpOk.of {N : List Str} {sc : Scope} {N' : List Str} {scope : Scope} {sub : List (Option Nat)} (h : cmpOkB N sc N' scope sub = true) : CmpOk N sc N' scope sub := by
  unfold cmpOkB at h
  simp only [Bool.and_eq_true] at h
  obtain ⟨⟨⟨⟨⟨h1, h2⟩, h3⟩, h4⟩, h5⟩, h6⟩ := h
  refine ⟨by simpa using h1, of_decide_eq_true h2, of_decide_eq_true h3, by simpa using h4, fun x hx hf => ?_, fun j i x hj hx => ?_⟩
  · have q := List.all_eq_true.mp h5 x hx
    rw [hf] at q
    simp only [beq_self_eq_true, Bool.not_true, Bool.false_or, Bool.or_eq_true] at q
    rcases q with q | q
    · exact .inl (by simpa using q)
    · exact .inr (by simpa using q)
  · have q := List.all_eq_true.mp h6 (some i, x) (by
      refine List.mem_of_getElem? (i := j) ?_
      rw [List.getElem?_zip_eq_some]
      exact ⟨hj, hx⟩)
    simp only [Bool.and_eq_true] at q
    exact ⟨by simpa using q.1, by simpa using q.2⟩
theorem lookup_mem_nd {α : Type} : ∀ {l : List (Str × α)} {x : Str} {c : α}, (l.map (·.1)).Nodup → (x, c) ∈ l → l.lookup x = some c
  | (y, d) :: r, x, c, nd, h => by
    rw [List.lookup_cons]
    rcases List.mem_cons.mp h with e | h
    · cases e; simp
    · have ne : x ≠ y := fun e => by
        rw [List.map_cons] at nd
        exact (List.nodup_cons.mp nd).1 (by rw [← e]; exact List.mem_map.mpr ⟨(x, c), h, rfl⟩)
      rw [show (x == y) = false from by simpa using ne]
      exact lookup_mem_nd (List.nodup_cons.mp nd).2 h
theorem lookup_relab {sc : Scope} : ∀ {names : List (Str × NameKind)} {x : Str},
    ((names.map fun (n, k) => if (k == NameKind.free && sc.kind == .function && sc.names.lookup n == some .cell) then (n, NameKind.cell) else (n, k)).lookup x) =
      (names.lookup x).map fun k => if (k == NameKind.free && sc.kind == .function && sc.names.lookup x == some .cell) then NameKind.cell else k
  | [], x => rfl
  | (n, k) :: r, x => by
    have ih := @lookup_relab sc r x
    rw [List.map_cons]
    show List.lookup x ((if (k == NameKind.free && sc.kind == .function && sc.names.lookup n == some .cell) = true then (n, NameKind.cell) else (n, k)) :: _) = _
    by_cases hc : (k == NameKind.free && sc.kind == .function && sc.names.lookup n == some .cell) = true
    · rw [if_pos hc, List.lookup_cons, List.lookup_cons]
      by_cases hx : x = n
      · subst hx
        rw [show (x == x) = true from beq_self_eq_true x]
        show some NameKind.cell = Option.map _ (some k)
        rw [Option.map_some, if_pos hc]
      · rw [show (x == n) = false by simpa using hx]
        exact ih
    · rw [if_neg hc, List.lookup_cons, List.lookup_cons]
      by_cases hx : x = n
      · subst hx
        rw [show (x == x) = true from beq_self_eq_true x]
        show some k = Option.map _ (some k)
        rw [Option.map_some, if_neg hc]
      · rw [show (x == n) = false by simpa using hx]
        exact ih
section
variable {X : Cx} {pins : List (Addr × Obj)} {σ : St} {H H' : Hp} {s : Shared}
theorem frs_sub_of (I : Inv X pins σ H s) {b : Addr} (hb : b ∈ frs X.stack) (n1 : b ≠ X.env.locals) : b ∈ X.fs := (List.mem_cons.mp (I.stkSub b hb)).elim (fun e => absurd e n1) id
theorem cells_facts {N' : List Str} {scope : Scope} {sub : List (Option Nat)} {h3 : Heap} (I : Inv X pins σ H s) (O : CmpOk X.N X.env.scope N' scope sub)
    (hk : ∀ b o, s.heap.get? b = some o → h3.get? b = some o) :
    (∀ x c, (cellsFrom (h3.objs.size + 1) scope.names (closL X.env.cells scope.names [])).lookup x = some c →
      (((pushCells (h3.push { cls := .type "dict", data := .dict #[] }) scope.names).IsCell c none ∧ h3.objs.size + 1 ≤ c ∧ (x, NameKind.cell) ∈ scope.names) ∨ ((x, NameKind.free) ∈ scope.names ∧ X.env.cells.lookup x = some c))) ∧
    (∀ x y c, (cellsFrom (h3.objs.size + 1) scope.names (closL X.env.cells scope.names [])).lookup x = some c → (cellsFrom (h3.objs.size + 1) scope.names (closL X.env.cells scope.names [])).lookup y = some c → x = y) := by
  have hin : ∀ x c, (x, c) ∈ closL X.env.cells scope.names [] → (x, NameKind.free) ∈ scope.names ∧ X.env.cells.lookup x = some c := fun x c h => by
    rcases closL_mem h with q | ⟨q, e⟩
    · cases q
    · have hx : ∃ c, X.env.cells.lookup x = some c := by
        refine I.ok.has x ?_
        rcases O.free _ q rfl with z | z
        · exact .inl z
        · exact .inr z
      obtain ⟨c', hc'⟩ := hx
      rw [hc'] at e
      exact ⟨q, by rw [hc', e]; rfl⟩
  have hlt : ∀ x c, (x, c) ∈ closL X.env.cells scope.names [] → c < h3.objs.size := fun x c h => by
    obtain ⟨v, o, ho, _⟩ := I.cell x c (hin x c h).2
    exact Heap.lt_size (hk _ _ ho)
  have two := cellsFrom_two (acc0 := closL X.env.cells scope.names []) scope.names (h3.push { cls := .type "dict", data := .dict #[] }) (h3.objs.size + 1) (closL X.env.cells scope.names [])
    ⟨fun x c h => .inl h, fun x y c hc h1 _ => absurd (hlt x c h1) (Nat.not_lt.mpr (Nat.le_of_succ_le hc))⟩ (fun x c h => by rw [Heap.size_push]; exact Nat.lt_succ_of_lt (hlt x c h)) (by rw [Heap.size_push]; exact Nat.le_refl _)
  rw [Heap.size_push] at two
  refine ⟨fun x c h => ?_, fun x y c h1 h2 => ?_⟩
  · have m := PySem.mem_of_lookup h
    rcases two.part x c m with q | q
    · exact .inr (hin x c q)
    · refine .inl ⟨q.1, q.2, ?_⟩
      rcases cellsFrom_mem m with z | z
      · exact absurd (hlt x c z) (Nat.not_lt.mpr (Nat.le_of_succ_le q.2))
      · exact z
  · have m1 := PySem.mem_of_lookup h1
    have m2 := PySem.mem_of_lookup h2
    by_cases hc : h3.objs.size + 1 ≤ c
    · exact two.inj x y c hc m1 m2
    · rcases two.part x c m1 with q1 | q1
      · rcases two.part y c m2 with q2 | q2
        · exact I.ok.inj x y c (hin x c q1).2 (hin y c q2).2
        · exact absurd q2.2 hc
      · exact absurd q1.2 hc
theorem inv_comp {N' : List Str} {scope : Scope} {sub : List (Option Nat)} {fp : List Addr} (I : Inv X pins σ H s) (O : CmpOk X.N X.env.scope N' scope sub) (hf : ∀ b ∈ fp, FpOk X pins H b)
    (hfl : ∀ b ∈ fp, b < s.heap.objs.size) :
    Inv (cmpOf X scope N' (s.heap.objs.size + 1) s H fp) [(s.heap.objs.size, { cls := .type "list", data := .seq #[] })] (subσ sub σ) H
      { s with heap := pushCells ((s.heap.push { cls := .type "list", data := .seq #[] }).push { cls := .type "dict", data := .dict #[] }) scope.names } := by
  have hk3 : ∀ b o, s.heap.get? b = some o → (s.heap.push { cls := .type "list", data := .seq #[] }).get? b = some o := fun b o e => Heap.get?_push_of_some _ e
  have sz3 : (s.heap.push { cls := .type "list", data := .seq #[] }).objs.size = s.heap.objs.size + 1 := Heap.size_push ..
  have hk : ∀ b o, s.heap.get? b = some o → (pushCells ((s.heap.push { cls := .type "list", data := .seq #[] }).push { cls := .type "dict", data := .dict #[] }) scope.names).get? b = some o :=
    fun b o e => pushCells_keeps _ _ b o (Heap.get?_push_of_some _ (hk3 b o e))
  have cf := cells_facts (h3 := s.heap.push { cls := .type "list", data := .seq #[] }) I O hk3
  rw [sz3] at cf
  have hC : H (s.heap.objs.size + 1) = none := I.hok.fresh (Nat.le_succ _)
  have nsC : (pushCells ((s.heap.push { cls := .type "list", data := .seq #[] }).push { cls := .type "dict", data := .dict #[] }) scope.names).Ns (s.heap.objs.size + 1) (fun _ => none) := by
    rw [← sz3]
    exact (Heap.Ns.new _ _).keeps (pushCells_keeps _ _)
  have has : ∀ x, (scope.names.lookup x = some .cell ∨ scope.names.lookup x = some .free) → ∃ c, (cellsFrom (s.heap.objs.size + 1 + 1) scope.names (closL X.env.cells scope.names [])).lookup x = some c := fun x hx => by
    refine Option.isSome_iff_exists.mp (PySem.W.cellsFrom_some _ _ _ ?_)
    rcases hx with z | z
    · exact .inl z
    · exact .inr (closL_some (.inl (PySem.mem_of_lookup z)))
  have kindB : ∀ x, (cenvOf X.env scope (s.heap.objs.size + 1)).kindOf x = (scope.names.lookup x).map fun k => if (k == NameKind.free && X.env.scope.kind == .function && X.env.scope.names.lookup x == some .cell) then NameKind.cell else k := fun x => lookup_relab
  have cellOk : ∀ x c, (cenvOf X.env scope (s.heap.objs.size + 1)).cells.lookup x = some c → ∃ v, (pushCells ((s.heap.push { cls := .type "list", data := .seq #[] }).push { cls := .type "dict", data := .dict #[] }) scope.names).IsCell c v := fun x c h => by
    rcases cf.1 x c h with q | q
    · exact ⟨_, q.1⟩
    · obtain ⟨v, z⟩ := I.cell x c q.2
      exact ⟨v, z.keeps hk⟩
  refine ⟨⟨I.ok.mod, O.kind, I.ok.glob, I.ok.blt, Nat.le_succ _, fun x y c h1 h2 => cf.2 x y c h1 h2, fun x hx => ?_, fun x c hx h => ?_, I.ok.hd, I.ok.frames, .inl rfl, fun b hb => ?_, fun b o e => I.bs b o e, Nat.le_trans I.ok.bsz I.sz, fun b o e hb => ?_, fun b hb => ?_, I.stack, I.stkFree⟩,
    rfl, I.bare, Un.kept hk, ⟨fun _ => none, nsC, fun i x v h1 h2 h3 => ?_⟩, cellOk, hC, fun x c h => ?_, fun p hp => ?_, I.hok.kept hk, ?_⟩
  · -- has
    refine has x ?_
    have hx : (cenvOf X.env scope (s.heap.objs.size + 1)).kindOf x = some .cell ∨ (cenvOf X.env scope (s.heap.objs.size + 1)).kindOf x = some .free := hx
    rw [kindB] at hx
    cases e : scope.names.lookup x with
    | none => rw [e] at hx; rcases hx with z | z <;> cases z
    | some k =>
      rw [e] at hx
      cases k with
      | cell => exact .inl rfl
      | free => exact .inr rfl
      | _ => exfalso; rcases hx with z | z <;> simp at z
  · -- cab
    rcases cf.1 x c h with q | q
    · have := q.2.1
      show s.heap.objs.size ≤ c
      omega
    · exfalso
      have e := lookup_mem_nd O.nd q.1
      have hx' : (!(scope.names.lookup x == some NameKind.free)) = true := hx
      rw [e] at hx'
      exact absurd hx' (by decide)
  · -- exf
    obtain ⟨f0, f1, f2, f3, f4, f5⟩ := hf b hb
    have lt := hfl b hb
    refine ⟨fun e => ?_, fun x c h e => ?_⟩
    · have e' : b = s.heap.objs.size + 1 := e
      rw [e'] at lt
      exact absurd lt (Nat.not_lt.mpr (Nat.le_succ _))
    · rcases cf.1 x c h with q | q
      · have z := q.2.1
        rw [e] at z
        exact absurd lt (Nat.not_lt.mpr (Nat.le_trans (Nat.le_trans (Nat.le_succ _) (Nat.le_succ _)) z))
      · exact f4 x c q.2 e
  · -- noex
    obtain ⟨f0, f1, f2, f3, f4, f5⟩ := hf b hb
    rcases f3 with z | z
    · exact I.ok.noex b o e z
    · exact absurd (Nat.lt_of_lt_of_le (Heap.lt_size (I.ok.bs b o e).1) z) (Nat.lt_irrefl _)
  · -- exfs
    obtain ⟨f0, f1, f2, f3, f4, f5⟩ := hf b hb
    exact fun z => f2 (frs_sub_of I z f1)
  · -- loc
    have h1' : N'[i]? = some x := h1
    have hsub : ∃ k, sub[i]? = some (some k) ∧ (σ[k]?).join = some v := by
      unfold subσ at h2
      rw [List.getElem?_map] at h2
      cases e : sub[i]? with
      | none => rw [e] at h2; cases h2
      | some o =>
        rw [e] at h2
        cases o with
        | none => cases h2
        | some k => exact ⟨k, rfl, by simpa using h2⟩
    obtain ⟨k, hk1, hk2⟩ := hsub
    obtain ⟨nk, fx⟩ := O.sub i k x hk1 h1'
    have sk : σ[k]? = some (some v) := by
      cases e : σ[k]? with
      | none => rw [e] at hk2; cases hk2
      | some o => rw [e] at hk2; cases o with
        | none => cases hk2
        | some y => cases hk2; rfl
    have cx := O.free _ (PySem.mem_of_lookup fx) rfl
    obtain ⟨m, hn, hl⟩ := I.loc
    obtain ⟨u, ru, lk⟩ := hl k x v nk sk (by
      rcases cx with z | z
      · exact .inr (.inl z)
      · exact .inr (.inr z))
    refine ⟨u, ru, .inr ⟨?_, ?_⟩⟩
    · show (cenvOf X.env scope (s.heap.objs.size + 1)).kindOf x = some .cell ∨ (cenvOf X.env scope (s.heap.objs.size + 1)).kindOf x = some .free
      rw [kindB, fx]
      by_cases hc : (NameKind.free == NameKind.free && X.env.scope.kind == .function && X.env.scope.names.lookup x == some .cell) = true
      · exact .inl (by rw [Option.map_some, if_pos hc])
      · exact .inr (by rw [Option.map_some, if_neg hc])
    · rcases lk with ⟨kl, _⟩ | ⟨_, c, hc, hcell⟩
      · exfalso
        have kl' : X.env.scope.names.lookup x = some .local := kl
        rcases cx with z | z <;> rw [kl'] at z <;> cases z
      · obtain ⟨c', hc'⟩ := has x (.inr fx)
        refine ⟨c', hc', ?_⟩
        rcases cf.1 x c' hc' with q | q
        · exfalso
          have e := lookup_mem_nd O.nd q.2.2
          rw [fx] at e; cases e
        · rw [hc] at q
          have e : c = c' := Option.some.inj q.2
          subst e
          exact hcell.keeps hk
  · -- freeC
    rcases cf.1 x c h with q | q
    · exact I.hok.fresh (by have := q.2.1; omega)
    · exact I.freeC x c q.2
  · -- pin
    have hp' : p = (s.heap.objs.size, ({ cls := .type "list", data := .seq #[] } : Obj)) := by
      have : p ∈ ([] ++ [(s.heap.objs.size, ({ cls := .type "list", data := .seq #[] } : Obj))] : List (Addr × Obj)) := hp
      simpa using this
    subst hp'
    refine ⟨pushCells_keeps _ _ _ _ (Heap.get?_push_of_some _ (Heap.get?_push_size _ rfl)), I.hok.fresh (Nat.le_refl _), Nat.ne_of_lt (Nat.lt_succ_self _), fun z => ?_, fun v z => ?_⟩
    · rcases List.mem_cons.mp (I.stkSub _ z) with e | e
      · exact absurd I.lt (by rw [← e]; exact Nat.lt_irrefl _)
      · exact I.nofs (Nat.le_refl _) e
    · cases z
  · -- len
    show (subσ sub σ).length = N'.length
    unfold subσ
    rw [List.length_map, O.len]
end
end L2
namespace L2
open PySem PySem.Spec PyProof.Rows
def Sle (σ σ2 : St) : Prop := σ2.length = σ.length ∧ ∀ (i : Nat) (v : V), σ[i]? = some (some v) → σ2[i]? = some (some v)
theorem Sle.refl (σ : St) : Sle σ σ := ⟨rfl, fun _ _ h => h⟩
theorem Sle.set {σ σ2 : St} {i : Nat} (v : V) (h : Sle σ σ2) (hi : ∀ u, σ[i]? ≠ some (some u)) : Sle σ (σ2.set i (some v)) := by
  refine ⟨by rw [List.length_set]; exact h.1, fun j u hj => ?_⟩
  have ne : i ≠ j := fun e => hi u (by rw [e]; exact hj)
  rw [List.getElem?_set_ne ne]
  exact h.2 j u hj
def PTs (X : Cx) (ifs : List Expr) (t : TT) : Prop :=
  ∀ (pins : List (Addr × Obj)) (s : Shared) (σ : St) (H : Hp) (Q : Bool → Hp → Prop), Inv X pins σ H s → t σ H Q →
    wpAny (model X.prog X.w) X.A (forIn ifs true fun c r => if r = true then do let ok ← isTrue c X.env (eval c X.env); pure (ForInStep.yield ok) else pure (ForInStep.yield r)) (TP X pins σ Q) X.xe s
def tNoTest : TT := fun _ H Q => Q true H
theorem pts_nil {X : Cx} : PTs X [] tNoTest := fun pins s σ H Q I h => wpAny_tests_nil ⟨H, I, h⟩
theorem pts_one {X : Cx} {c : Expr} {t : TT} (h : PT X c t) : PTs X [c] t := fun pins s σ H Q I hw => wpAny_tests_one (h pins s σ H Q I hw)
def cTurns (J : It) (σ0 : St) (g : TG) (tt : TT) (te : TE) (Q : List V → Hp → Prop) (H1 : Hp) : Prop :=
  ∃ W : Nat → Nat → List V → Hp → Prop, (∃ m, W 0 m [] H1) ∧ ∀ i m ys H, W i m ys H →
    (J.stop i H ∧ Q ys H) ∨
    (J.go i H ∧ ∀ x H', J.yld i H x H' → g x σ0 H' fun σ2 H2 => Sle σ0 σ2 ∧ tt σ2 H2 fun b H3 =>
      if b = true then te σ2 H3 (fun v H4 => ys.length < sizeLine ∧ ∃ m', m' < m ∧ W (i + 1) m' (ys ++ [v]) H4) else ∃ m', m' < m ∧ W (i + 1) m' ys H3)
section
variable {X : Cx} {pins : List (Addr × Obj)} {σ : St} {H : Hp} {s : Shared}
theorem comp_core {target iter elt : Expr} {ifs : List Expr} {scope : Scope} {pos : Pos} {N' : List Str} {sub : List (Option Nat)} {J : It} {fp : List Addr} {it : Addr} {tn : Nat → Heap → Prop} {g : TG} {tt : TT} {te : TE}
    {Qe : List V → Hp → Prop} {E : Value → Shared → Prop} {RR : Value → Addr → Result → Shared → Prop}
    (hc : X.calm = true) (I : Inv X pins σ H s) (O : CmpOk X.N X.env.scope N' scope sub) (T : Turn X.prog X.w X.K target J fp it tn) (st : tn 0 s.heap) (hf : ∀ b ∈ fp, FpOk X pins H b)
    (B : ∀ C s H fp, PG (cmpOf X scope N' C s H fp) target g ∧ PTs (cmpOf X scope N' C s H fp) ifs tt ∧ PE (cmpOf X scope N' C s H fp) elt te)
    (rd : cTurns J (subσ sub σ) g tt te Qe H)
    (hRR : ∀ (acc C : Addr) (ys : List V) (H' : Hp) (s' : Shared), Inv X pins σ (upd H' acc (.lst ys)) s' → FpOk X pins (upd H' acc (.lst ys)) C → (∃ m, s'.heap.Ns C m) → H' acc = none → Qe ys H' → RR (.ref acc) C (.ok .next) s') :
    wpAny (model X.prog X.w) X.A (newList []) (fun acc s₃ => wpAny (model X.prog X.w) X.A (newFunctionEnv scope X.env.globals (closL X.env.cells scope.names []) [] X.env.qual none .none (some X.env)) (fun cenv s₄ =>
      codeAny (model X.prog X.w) X.A (.compStart (.ListComp elt [⟨target, iter, ifs, 0⟩] scope pos) 0 (.ref it) acc { cenv with scope := relabel scope X.env }) (RR acc cenv.locals) s₄) E s₃) E s := by
  refine wpAny_newObj_type (wpAny_compEnv ?_)
  have hfl : ∀ b ∈ fp, b < s.heap.objs.size := fun b hb => by
    obtain ⟨o, e, _⟩ := T.obj _ _ st b hb
    exact Heap.lt_size e
  have I0 := inv_comp (sub := sub) I O hf hfl
  have sz3 : (s.heap.push { cls := .type "list", data := .seq #[] }).objs.size = s.heap.objs.size + 1 := Heap.size_push ..
  dsimp only
  show codeAny _ _ (.compStart _ 0 (.ref it) (.ref s.heap.objs.size) { scope := relabel scope X.env, locals := (s.heap.push { cls := .type "list", data := .seq #[] }).objs.size, globals := X.env.globals, cells := cellsFrom ((s.heap.push { cls := .type "list", data := .seq #[] }).objs.size + 1) scope.names (closL X.env.cells scope.names []), qual := X.env.qual, func := none, code := X.env.code, frame := X.env.frame, builtins := X.env.builtins })
    (RR (.ref s.heap.objs.size) (s.heap.push { cls := .type "list", data := .seq #[] }).objs.size) { s with heap := pushCells ((s.heap.push { cls := .type "list", data := .seq #[] }).push { cls := .type "dict", data := .dict #[] }) scope.names }
  rw [sz3]
  show codeAny _ _ (.compStart _ 0 (.ref it) (.ref s.heap.objs.size) (cenvOf X.env scope (s.heap.objs.size + 1))) (RR (.ref s.heap.objs.size) (s.heap.objs.size + 1)) _
  generalize hs0 : ({ s with heap := pushCells ((s.heap.push { cls := .type "list", data := .seq #[] }).push { cls := .type "dict", data := .dict #[] }) scope.names } : Shared) = s0 at I0 ⊢
  have hk0 : ∀ b o, s.heap.get? b = some o → s0.heap.get? b = some o := fun b o e => by
    rw [← hs0]
    exact pushCells_keeps _ _ b o (Heap.get?_push_of_some _ (Heap.get?_push_of_some _ e))
  have st0 : tn 0 s0.heap := T.keep _ _ _ st fun b hb o e => hk0 b o e
  clear hs0 sz3
  generalize hX : cmpOf X scope N' (s.heap.objs.size + 1) s H fp = X' at I0
  have xp : X'.prog = X.prog := by rw [← hX]; rfl
  have xw : X'.w = X.w := by rw [← hX]; rfl
  have xK : X'.K = X.K := by rw [← hX]; rfl
  have xA : X'.A = X.A := by rw [← hX]; rfl
  have xc : X'.calm = true := by rw [← hX]; exact hc
  have xe : X'.env = cenvOf X.env scope (s.heap.objs.size + 1) := by rw [← hX]; rfl
  have xx : X'.ex = fp := by rw [← hX]; rfl
  have xo : X'.outer = X.stack := by rw [← hX]; rfl
  have xf : X'.fs = frs X.stack := by rw [← hX]; rfl
  have xpn : X'.pn = [] := by rw [← hX]; rfl
  have x0 : X'.s₀ = s := by rw [← hX]; rfl
  have xh : X'.H₀ = H := by rw [← hX]; rfl
  have xxe : X'.xe = fun _ _ => False := by rw [← hX]; rfl
  obtain ⟨hg, ht, he⟩ := B (s.heap.objs.size + 1) s H fp
  rw [hX] at hg ht he
  clear hX
  have stat : ∀ {pl : List (Addr × Obj)} {H' : Hp}, (∀ p ∈ pl, p.1 = s.heap.objs.size) → (∀ b ∈ fp, H' b = none) → ∀ b ∈ fp, FpOk X' pl H' b := fun {pl H'} hp hn b hb => by
    obtain ⟨f0, f1, f2, f3, f4, f5⟩ := hf b hb
    refine ⟨hn b hb, (I0.ok.exf b (by rw [xx]; exact hb)).1, I0.ok.exfs b (by rw [xx]; exact hb), .inl (by rw [xx]; exact hb), (I0.ok.exf b (by rw [xx]; exact hb)).2, fun p hp' => ?_⟩
    rw [xpn, List.nil_append] at hp'
    rw [hp p hp']
    exact Nat.ne_of_gt (hfl b hb)
  obtain ⟨W, ⟨m0, w0⟩, turn⟩ := rd
  have loop : ∀ s3 : Shared, s3 = s0 → codeAny (model X.prog X.w) X.A (.compLoop (.ListComp elt [⟨target, iter, ifs, 0⟩] scope pos) 0 (.ref it) (.ref s.heap.objs.size) (cenvOf X.env scope (s.heap.objs.size + 1))) (RR (.ref s.heap.objs.size) (s.heap.objs.size + 1)) s3 := by
    intro s3 e3
    refine compLoop_any (fun n s' => ∃ (i : Nat) (ys : List V) (H' : Hp) (its : List Value) (k : Nat), Inv X' [(s.heap.objs.size, { cls := .type "list", data := .seq its.toArray k })] (subσ sub σ) H' s' ∧ Vals ys its ∧ ys.length ≤ sizeLine ∧ tn i s'.heap ∧ (∀ b ∈ fp, H' b = none) ∧ W i n ys H') ?_ m0
      ⟨0, [], H, [], 0, by rw [e3]; exact I0, .nil, Nat.zero_le _, by rw [e3]; exact st0, fun b hb => (hf b hb).1, w0⟩
    rintro n s4 ⟨i, ys, H4, its, k, I4, rv, hz, st4, fr4, w4⟩
    have pe : ∀ p ∈ ([(s.heap.objs.size, ({ cls := .type "list", data := .seq its.toArray k } : Obj))] : List (Addr × Obj)), p.1 = s.heap.objs.size := fun p hp => by
      rw [List.mem_singleton] at hp
      rw [hp]
    rcases turn i n ys H4 w4 with ⟨stop, q⟩ | ⟨go, step⟩
    · -- the end
      have td := T.done X' xp xw xK xc i _ s4 (subσ sub σ) H4 (fun _ _ => False) I4 (stat pe fr4) st4 stop
      rw [xA] at td
      refine thn td fun r s5 ⟨hr, I5⟩ => ?_
      subst hr
      have pa := I5.pin (s.heap.objs.size, { cls := .type "list", data := .seq its.toArray k }) (by rw [xpn]; simp)
      have nacc : H4 s.heap.objs.size = none := pa.2.1
      have nC : H4 (s.heap.objs.size + 1) = none := by have z := I5.free; rw [xe] at z; exact z
      have un : Un (frs X.stack) fp H H4 s.heap s5.heap := by have z := I5.base; rw [xf, xx, xh, x0] at z; exact z
      have un2 : Un (frs X.stack) fp H (upd H4 s.heap.objs.size (.lst ys)) s.heap s5.heap := by
        refine ⟨un.keep, un.slot, fun b o e n hx => ?_, un.there, fun b xs e => ?_, fun b o u e => ?_, fun b ps e => ?_⟩
        · rw [upd_ne (Nat.ne_of_lt (Heap.lt_size e))]
          exact un.free b o e n hx
        · have z := un.tups b xs e
          rw [upd_ne (ne_of_none z nacc)]; exact z
        · have z := un.frzs b o u e
          rw [upd_ne (ne_of_none z nacc)]; exact z
        · obtain ⟨more, z⟩ := un.tbls b ps e
          exact ⟨more, by rw [upd_ne (ne_of_none z nacc)]; exact z⟩
      have hok5 : HOk X.prog X.w H4 s5.heap := by have z := I5.hok; rw [xp, xw] at z; exact z
      have hok2 : HOk X.prog X.w (upd H4 s.heap.objs.size (.lst ys)) s5.heap := fun b u e => by
        by_cases hb : b = s.heap.objs.size
        · subst hb
          rw [upd_same] at e
          cases e
          exact ⟨hz, its, k, rv, pa.1⟩
        · rw [upd_ne hb] at e
          exact (hok5 b u e).stay (fun _ _ _ q => q) (fun c q => by rw [upd_ne (ne_of_none q nacc)]; exact q) fun c xs q => by rw [upd_ne (ne_of_none q nacc)]; exact q
      have os5 : s5.os = s.os := by have z := I5.os; rw [x0] at z; exact z
      have J5 : Inv X pins σ (upd H4 s.heap.objs.size (.lst ys)) s5 := I.call' os5 un2 hok2 I5.bare fun b hb => by
        obtain ⟨f0, f1, f2, f3, f4, f5⟩ := hf b hb
        exact ⟨f3, f1, f4, f5⟩
      refine hRR _ _ ys H4 s5 J5 (I.fpOk (Nat.le_succ _) ?_) ?_ nacc q
      · rw [upd_ne (Nat.succ_ne_self _)]; exact nC
      · obtain ⟨m, hn, _⟩ := I5.loc
        rw [xe] at hn
        exact ⟨m, hn⟩
    · -- one turn
      have ti := T.item X' xp xw xK xc i _ s4 (subσ sub σ) H4 (fun _ _ => False) I4 (stat pe fr4) st4 go
      rw [xA] at ti
      refine thn ti fun r s5 ⟨u, hr, h5⟩ => ?_
      subst hr
      refine thn h5 fun _ s6 ⟨x, H6, I6, r6, y6, st6, fr6⟩ => ?_
      have I6' := I6.pinned (stat pe fr6) (T.obj _ _ st6)
      have tg := hg _ s6 (subσ sub σ) H6 x u _ I6' r6 (step x H6 y6)
      rw [xp, xw, xA, xe, xxe] at tg
      refine thn tg fun _ s7 ⟨σ7, H7, I7, le7, q7⟩ => ?_
      have tts := ht _ s7 σ7 H7 _ I7 q7
      rw [xp, xw, xA, xe, xxe] at tts
      refine thn tts fun b s8 ⟨H8, I8, q8⟩ => ?_
      cases b with
      | false =>
        rw [if_neg Bool.false_ne_true] at q8 ⊢
        obtain ⟨m', hm', w8⟩ := q8
        have I9 : Inv X' ([(s.heap.objs.size, { cls := .type "list", data := .seq its.toArray k })] ++ pinsAt fp s6.heap) (subσ sub σ) H8 s8 := I8.weak le7.1.symm le7.2
        refine ⟨m', hm', i + 1, ys, H8, its, k, I9.unpinned, rv, hz, T.keep _ _ _ st6 fun b hb o e => (I9.pin (b, o) (List.mem_append_right _ (List.mem_append_right _ (mem_pinsAt hb e)))).1, fun b hb => ?_, w8⟩
        obtain ⟨o, e, d⟩ := T.obj _ _ st6 b hb
        exact (I9.pin (b, o) (List.mem_append_right _ (List.mem_append_right _ (mem_pinsAt hb e)))).2.1
      | true =>
        rw [if_pos rfl] at q8 ⊢
        have tee := he _ s8 σ7 H8 _ I8 q8
        rw [xp, xw, xA, xe, xxe] at tee
        refine thn tee fun vv s9 ⟨v, H9, I9, r9, lz, m', hm', w9⟩ => ?_
        have I10 : Inv X' ([(s.heap.objs.size, { cls := .type "list", data := .seq its.toArray k })] ++ pinsAt fp s6.heap) (subσ sub σ) H9 s9 := I9.weak le7.1.symm le7.2
        have pa := I10.pin (s.heap.objs.size, { cls := .type "list", data := .seq its.toArray k }) (by rw [xpn]; simp)
        have hlen := rv.length
        refine wpAny_list_append_plain (items := its.toArray) ⟨k, pa.1⟩ (fun h' pl sb => ?_) (by rw [List.size_toArray]; omega)
        obtain ⟨k', pl⟩ := pl
        have keepIt : ∀ b ∈ fp, ∀ o, s6.heap.get? b = some o → h'.get? b = some o := fun b hb o e => by
          have nb : b ≠ s.heap.objs.size := Nat.ne_of_lt (hfl b hb)
          exact (sb.2 b nb).trans (I10.pin (b, o) (List.mem_append_right _ (List.mem_append_right _ (mem_pinsAt hb e)))).1
        have I11 : Inv X' [] (subσ sub σ) H9 s9 := I10.pins_of fun p hp => absurd hp (by simp)
        have sacc : s.heap.objs.size ≠ X'.env.locals := pa.2.2.1
        have I12 : Inv X' [] (subσ sub σ) H9 { s9 with heap := h' } := I11.turned (t' := s9.toks) (it := s.heap.objs.size) (fun b o hb e => (sb.2 b hb).trans e) pa.2.1 sacc (.inr (by rw [x0]; exact Nat.le_refl _))
          (fun y c hy z => by
            obtain ⟨w', o', ho', hd'⟩ := I10.cell y c hy
            rw [z, pa.1] at ho'
            have z2 := Option.some.inj ho'
            rw [← z2] at hd'
            cases hd') (fun p hp => absurd hp (by rw [xpn]; simp))
        refine ⟨m', hm', i + 1, ys ++ [v], H9, its ++ [vv], k', I12.pins_of (fun p hp => ?_), rv.append (.cons r9 .nil), by rw [List.length_append, List.length_singleton]; omega, T.keep _ _ _ st6 keepIt, fun b hb => ?_, w9⟩
        · rw [List.mem_singleton] at hp
          subst hp
          refine ⟨?_, pa.2.1, sacc, pa.2.2.2.1, fun v z => by cases z⟩
          show h'.get? s.heap.objs.size = _
          rw [pl]
          simp
        · obtain ⟨o, e, d⟩ := T.obj _ _ st6 b hb
          exact (I10.pin (b, o) (List.mem_append_right _ (List.mem_append_right _ (mem_pinsAt hb e)))).2.1
  exact codeAny_compStart_list (loop _ rfl) (T.self _ 0 _ _ _ st0 (loop _ rfl))
end
end L2
namespace L2
open PySem PySem.Spec PyProof.Rows
def tComp (sub : List (Option Nat)) (wi : TI) (g : TG) (tt : TT) (te : TE) : TE := fun σ H Q => wi σ H fun J H1 =>
  cTurns J (subσ sub σ) g tt te (fun ys H' => ∀ r, H' r = none → Q (.ref r) (upd H' r (.lst ys))) H1
section
variable {X : Cx} {target iter elt : Expr} {ifs : List Expr} {scope : Scope} {pos : Pos} {N' : List Str} {sub : List (Option Nat)} {wi : TI} {g : TG} {tt : TT} {te : TE}
theorem clos_of {pins : List (Addr × Obj)} {σ : St} {H : Hp} {s : Shared} (I : Inv X pins σ H s) (O : CmpOk X.N X.env.scope N' scope sub) : closureFor scope X.env = pure (closL X.env.cells scope.names []) :=
  closureFor_eq fun x hx hf => I.ok.has x.1 (by rcases O.free x hx hf with z | z; exact .inl z; exact .inr z)
theorem names_of (O : CmpOk X.N X.env.scope N' scope sub) : ∀ y ∈ scope.names, y.2 = .local → scope.names.lookup y.1 = some .local := fun y hy e => by
  obtain ⟨n, k⟩ := y
  cases e
  exact lookup_mem_nd O.nd hy
theorem pe_comp (hc : X.calm = true) (O : CmpOk X.N X.env.scope N' scope sub) (hi : PI X target iter wi)
    (B : ∀ C s H fp, PG (cmpOf X scope N' C s H fp) target g ∧ PTs (cmpOf X scope N' C s H fp) ifs tt ∧ PE (cmpOf X scope N' C s H fp) elt te)
    (hs : ∀ x, foldedSetIterable iter X.env x = pure x := by intro _; rfl) : PE X (.ListComp elt [⟨target, iter, ifs, 0⟩] scope pos) (tComp sub wi g tt te) := by
  intro pins s σ H Q I h
  rw [eval_ListComp]
  refine wpAny_comprehension_free (use := none) rfl hs (clos_of I O) O.kind (names_of O) (thn (hi pins s σ H _ I h) fun v s1 h1 => thn h1 fun itv s2 h2 => ?_)
  obtain ⟨it, fp, tn, J, H2, e, I2, T, st2, f2, rd⟩ := h2
  subst e
  refine comp_core (RR := fun acc C => compPost (model X.prog X.w) X.A X.xe none (EP X pins σ Q) acc C) hc I2 O T st2 f2 B rd fun acc C ys H' s' I' fC hn na q => ?_
  obtain ⟨m, hn⟩ := hn
  obtain ⟨f0, f1, f3, f4, f5, f6⟩ := fC
  refine ⟨m, hn, fun h' sb => ?_⟩
  exact ⟨.ref acc, upd H' acc (.lst ys), I'.turned (t' := s'.toks) (it := C) (fun b o hb e => (sb.2 b hb).trans e) f0 f1 f4 f5 f6, rfl, q acc na⟩
theorem ps_comp {i : Nat} {y : Str} {py spos : Pos} (hc : X.calm = true) (O : CmpOk X.N X.env.scope N' scope sub) (hi : PI X target iter wi)
    (B : ∀ C s H fp, PG (cmpOf X scope N' C s H fp) target g ∧ PTs (cmpOf X scope N' C s H fp) ifs tt ∧ PE (cmpOf X scope N' C s H fp) elt te)
    (hN : X.N.Nodup) (hy : X.N[i]? = some y) (hx : Loc X.env.scope y)
    (hsw : swapsWith (.ListComp elt [⟨target, iter, ifs, 0⟩] scope pos) (some (.Name y py)) spos.line X.env = pure true)
    (hs : ∀ x, foldedSetIterable iter X.env x = pure x := by intro _; rfl) (hf : X.fn y = true ∨ X.env.scope.names.lookup y = some .local := by first | exact .inl rfl | exact .inr rfl | assumption) :
    PS X (.Assign [.Name y py] (.ListComp elt [⟨target, iter, ifs, 0⟩] scope pos) spos) (tAsg (tComp sub wi g tt te) (gName i)) := by
  intro pins s σ H D I h
  rw [exec_Assign_Name_used _ _ _ _ hsw]
  refine wpAny_bind (wpAny_standAt (wpAny_bind ?_))
  show wpAny _ _ (do let _ ← comprehension (.ListComp elt [⟨target, iter, ifs, 0⟩] scope pos) scope X.env _ (newList []) false (eval iter X.env) (some (assign (.Name y py) X.env))) _ _ s
  refine wpAny_bind (wpAny_mono (wpAny_comprehension_free (use := some (assign (.Name y py) X.env)) (Q := fun _ s' => SP X pins D .next s') rfl hs (clos_of I O) O.kind (names_of O)
    (thn (hi pins s σ H _ I h) fun v s1 h1 => thn h1 fun itv s2 h2 => ?_)) (fun _ s' hq => wpAny_pure (wpAny_pure hq)) fun _ _ e => e)
  obtain ⟨it, fp, tn, J, H2, e, I2, T, st2, f2, rd⟩ := h2
  subst e
  refine comp_core (RR := fun acc C => compPost (model X.prog X.w) X.A X.xe (some (assign (.Name y py) X.env)) (fun _ s' => SP X pins D .next s') acc C) hc I2 O T st2 f2 B rd fun acc C ys H' s' I' fC hn na q => ?_
  obtain ⟨m, hn⟩ := hn
  obtain ⟨f0, f1, f3, f4, f5, f6⟩ := fC
  show wpAny _ _ (assign (.Name y py) X.env (.ref acc)) _ _ s'
  refine wpAny_assign_Name (store_ok2 (v := .ref acc) I' hN hy hx rfl (fun s'' I'' ⟨a, sb, ha⟩ => ?_) hf)
  have nCa : C ≠ a := by
    rcases ha with z | z
    · rw [z]; exact f1
    · exact fun e => f5 _ _ z e.symm
  refine ⟨m, hn.sameBut sb nCa, fun h' sb' => ?_⟩
  exact ⟨_, upd H' acc (.lst ys), I''.turned (t' := s''.toks) (it := C) (fun b o hb e => (sb'.2 b hb).trans e) f0 f1 f4 f5 f6, q acc na⟩
end
section
variable {σ0 : St} {g : TG} {tt : TT} {te : TE} {Q : List V → Hp → Prop} {H1 : Hp}
def Nxt (n i : Nat) (Pv : Nat → List V → Hp → Prop) (ys : List V) (H : Hp) : Prop := ∃ m', m' < n - i ∧ m' = n - (i + 1) ∧ i + 1 ≤ n ∧ Pv (i + 1) ys H
theorem nxt {n i : Nat} {Pv : Nat → List V → Hp → Prop} {ys : List V} {H : Hp} (hi : i < n) (h : Pv (i + 1) ys H) : Nxt n i Pv ys H := ⟨_, by omega, rfl, hi, h⟩
theorem turns_list {K : PySem.W.Frag} {a : Addr} {xs : List V} (Pv : Nat → List V → Hp → Prop) (h0 : Pv 0 [] H1) (hl : ∀ i ys H, i ≤ xs.length → Pv i ys H → SqL K H a xs)
    (hs : ∀ i x ys H, xs[i]? = some x → Pv i ys H → g x σ0 H fun σ2 H2 => Sle σ0 σ2 ∧ tt σ2 H2 fun b H3 => if b = true then te σ2 H3 (fun v H4 => ys.length < sizeLine ∧ Nxt xs.length i Pv (ys ++ [v]) H4) else Nxt xs.length i Pv ys H3)
    (hd : ∀ ys H, Pv xs.length ys H → Q ys H) : cTurns (Itl K a) σ0 g tt te Q H1 := by
  refine ⟨fun i m ys H => m = xs.length - i ∧ i ≤ xs.length ∧ Pv i ys H, ⟨xs.length, by simp, Nat.zero_le _, h0⟩, ?_⟩
  rintro i m ys H ⟨rfl, hi, p⟩
  have q := hl i ys H hi p
  by_cases hlt : i < xs.length
  · refine .inr ⟨⟨xs, xs[i], q, by simp [hlt]⟩, fun x H' y => ?_⟩
    obtain ⟨e, y⟩ := y
    subst e
    exact hs i x ys _ (y xs q) p
  · have e : i = xs.length := by omega
    subst e
    exact .inl ⟨⟨xs, q, Nat.le_refl _⟩, hd ys H p⟩
end
end L2
namespace L2
open PySem PySem.Spec PyProof.Rows PySem.SeqAt
mutual
inductive DR (K : PySem.W.Frag) (H : Hp) : V → PyData → Prop
  | non : DR K H .non .none
  | bl (b : Bool) : DR K H (.bl b) (.bool b)
  | int (i : Int) : DR K H (.int i) (.int i)
  | str (x : Str) : DR K H (.str x) (.str x)
  | lst {a : Addr} {xs : List V} {ds : List PyData} : SqL K H a xs → DRs K H xs ds → DR K H (.ref a) (.list ds)
  | tup {a : Addr} {xs : List V} {ds : List PyData} : SqT K H a xs → DRs K H xs ds → DR K H (.ref a) (.tuple ds)
inductive DRs (K : PySem.W.Frag) (H : Hp) : List V → List PyData → Prop
  | nil : DRs K H [] []
  | cons {v : V} {d : PyData} {vs : List V} {ds : List PyData} : DR K H v d → DRs K H vs ds → DRs K H (v :: vs) (d :: ds)
end
section
variable {X : Cx} {pins : List (Addr × Obj)} {σ : St} {H : Hp} {s : Shared}
mutual
theorem DR.reads (I : Inv X pins σ H s) : ∀ {v : V} {d : PyData} {u : Value}, DR X.K H v d → RelV v u → ∃ as, Reads s.heap u d as
  | _, _, _, .non, r => by cases r; exact ⟨_, .none⟩
  | _, _, _, .bl b, r => by cases r; exact ⟨_, .bool b⟩
  | _, _, _, .int i, r => by obtain ⟨t, rfl⟩ := r; exact ⟨_, .int i t⟩
  | _, _, _, .str x, r => by obtain ⟨t, rfl⟩ := r; exact ⟨_, .str x t⟩
  | _, _, _, .lst hq hd, r => by
    cases r
    obtain ⟨its, rv, ⟨o, n, e, c, _, dt⟩, _⟩ := I.list hq
    obtain ⟨as, ra⟩ := DRs.reads I hd rv
    exact ⟨_, .list e c dt ra⟩
  | _, _, _, .tup hq hd, r => by
    cases r
    obtain ⟨its, rv, ⟨o, e, c, n, dt⟩, _⟩ := I.tuple hq
    obtain ⟨as, ra⟩ := DRs.reads I hd rv
    exact ⟨_, .tuple e c dt ra⟩
theorem DRs.reads (I : Inv X pins σ H s) : ∀ {vs : List V} {ds : List PyData} {us : List Value}, DRs X.K H vs ds → Vals vs us → ∃ as, ReadsAll s.heap us ds as
  | _, _, _, .nil, r => by cases r; exact ⟨_, .nil⟩
  | _, _, _, .cons h t, r => by
    cases r with
    | cons r rr =>
      obtain ⟨a1, q1⟩ := DR.reads I h r
      obtain ⟨a2, q2⟩ := DRs.reads I t rr
      exact ⟨_, .cons q1 q2⟩
end
end
def rEqD (K : PySem.W.Frag) (neg : Bool) : R2 := fun x y H Q => ∃ dx dy, DR K H x dx ∧ DR K H y dy ∧ shaped dx = true ∧ shaped dy = true ∧ Q (.bl (if neg then !PyData.eqv dx dy else PyData.eqv dx dy)) H
section
variable {X : Cx}
theorem op_eqD (hu : X.A.units + 64 < cLine) : OpR X (compareOp .Eq) (rEqD X.K false) := by
  intro pins s σ H x y v u Q I rx ry h
  obtain ⟨dx, dy, hx, hy, sx, sy, q⟩ := h
  obtain ⟨a1, r1⟩ := DR.reads I hx rx
  obtain ⟨a2, r2⟩ := DR.reads I hy ry
  exact eq_dataH r1 r2 sx sy hu ⟨.bl (PyData.eqv dx dy), H, I, rfl, q⟩
theorem op_neD (hu : X.A.units + 64 < cLine) : OpR X (compareOp .NotEq) (rEqD X.K true) := by
  intro pins s σ H x y v u Q I rx ry h
  obtain ⟨dx, dy, hx, hy, sx, sy, q⟩ := h
  obtain ⟨a1, r1⟩ := DR.reads I hx rx
  obtain ⟨a2, r2⟩ := DR.reads I hy ry
  exact ne_dataH r1 r2 sx sy hu ⟨.bl (!PyData.eqv dx dy), H, I, rfl, q⟩
theorem strsAre_of {ss : List Str} : ∀ {us : List Value}, Vals (ss.map V.str) us → StrsAre us ss := by
  induction ss with
  | nil => intro us r; cases r; exact .nil
  | cons a l ih =>
    intro us r
    cases r with
    | cons r rr =>
      obtain ⟨t, rfl⟩ := r
      exact .cons a t (ih rr)
theorem of_strsAre {ss : List Str} : ∀ {us : List Value}, StrsAre us ss → Vals (ss.map V.str) us := by
  induction ss with
  | nil => intro us r; cases r; exact .nil
  | cons a l ih =>
    intro us r
    cases r with
    | cons _ _ r => exact .cons ⟨_, rfl⟩ (ih r)
theorem call_sortedS : CallR X (.builtin "sorted") (fun xs H Q => ∃ p ss, xs = [.ref p] ∧ SqL X.K H p (ss.map V.str) ∧ ss.length < 64 ∧ ∀ r ss', H r = none → ss'.Perm ss → sortedS ss' = true → Q (.ref r) (upd H r (.lst (ss'.map V.str)))) := by
  intro pins s σ H xs us Q I r h
  obtain ⟨p, ss, rfl, hq, h64, q⟩ := h
  obtain ⟨u, rfl, rx⟩ := vals1 r
  cases rx
  obtain ⟨its, rv, pl, hz⟩ := I.list hq
  have hl := rv.length
  rw [List.length_map] at hl
  refine sorted_strs pl.isList (strsAre_of rv) (by omega) fun out ss' h1 h2 h3 => ?_
  obtain ⟨e, he⟩ := sortedAll_at s.heap its out
  have nz : H (s.heap.objs.size + 1) = none := I.hok.fresh (Nat.le_succ _)
  refine ⟨.ref (s.heap.objs.size + 1), _, I.laid (t' := s.toks) (a := s.heap.objs.size + 1) (o := .lst (ss'.map V.str)) (fun b o eb => sortedAll_old eb) (Nat.le_succ _) ?_, rfl, q _ ss' nz h2 h3⟩
  refine ⟨?_, out.toList, e, of_strsAre h1, by simpa using he⟩
  rw [List.length_map, h2.length_eq]
  exact Nat.le_of_lt (small1000 (by omega))
end
end L2
namespace L2
open PySem PySem.Spec PyProof.Rows
section
variable {X : Cx}
theorem mulOk_small {x : Str} {n : Int} (h1 : x.length ≤ 100) (h2 : 0 ≤ n) (h3 : n ≤ 100) : PySem.MulOk x n := by
  refine ⟨?_, fun h _ => ?_, fun h _ => ?_⟩
  · rw [Bool.or_eq_false_iff]
    exact ⟨decide_eq_false (by omega), decide_eq_false (by omega)⟩
  · have e : ((2 ^ 63 - 1 : Int) / n) ≥ 100 := by
      apply Int.le_ediv_of_mul_le (by omega)
      omega
    omega
  · unfold Builtin.Str.tooLong
    have : x.length * n.toNat ≤ 100 * 100 := Nat.mul_le_mul h1 (by omega)
    exact decide_eq_false (by have : sizeLine > 10000 := by decide
                              omega)
theorem op_mul_str : OpR X (binaryOp .Mult) (fun x y H Q => ∃ (z : Str) (n : Int), x = .str z ∧ y = .int n ∧ z.length ≤ 100 ∧ 0 ≤ n ∧ n ≤ 100 ∧ Q (.str (Txt.mul z n)) H) := by
  intro pins s σ H x y v u Q I rx ry h
  obtain ⟨z, n, rfl, rfl, h1, h2, h3, q⟩ := h
  obtain ⟨t, rfl⟩ := rx
  obtain ⟨t', rfl⟩ := ry
  exact SB.mul (mulOk_small h1 h2 h3) fun t' k => ⟨.str (Txt.mul z n), H, I.tok k, ⟨t', rfl⟩, q⟩
theorem call_isinst : CallR X (.builtin "isinstance") (fun xs H Q => ∃ x t c b, xs = [x, .ty c] ∧ TyOf X.K H x t ∧ PySem.W.kitOne X.K t (.type c) = some b ∧ Q (.bl b) H) := by
  intro pins s σ H xs us Q I r h
  obtain ⟨x, t, c, b, rfl, ty, e, q⟩ := h
  obtain ⟨u, w', rfl, rx, rc⟩ := vals2 r
  cases (show w' = Value.type c from rc)
  exact isinst_ok I rx ty e fun tk => ⟨.bl b, H, I.tok tk, rfl, q⟩
end
end L2
namespace L2
open PySem PySem.Spec PyProof.Rows
section
variable {X : Cx}
theorem getD_all (bs : List Bool) (d : Bool) : (List.range bs.length).all (fun i => bs.getD i d) = bs.all id := by
  induction bs with
  | nil => rfl
  | cons b r ih =>
    rw [List.length_cons, List.range_succ_eq_map, List.all_cons, List.all_map, List.all_cons]
    have e : ((fun i => (b :: r).getD i d) ∘ Nat.succ) = fun i => r.getD i d := by
      funext i; simp
    rw [e, ih]
    simp
theorem truths {P : Program} {w : World} {A : Around} {bs : List Bool} {its : List Value} (rv : Vals (bs.map V.bl) its) (d : Bool) : TruthOf P w A (fun i v => its.toArray[i]? = some v) (fun i => bs.getD i d) := by
  intro i v s Q E hv hQ
  have hv' : its[i]? = some v := by simpa using hv
  have hi : i < its.length := (List.getElem?_eq_some_iff.mp hv').1
  have hl := rv.length
  rw [List.length_map] at hl
  have hb : (bs.map V.bl)[i]? = some (V.bl bs[i]) := by rw [List.getElem?_map, List.getElem?_eq_getElem (by omega)]; rfl
  obtain ⟨u, hu, ru⟩ := rv.get hb
  rw [hv'] at hu
  have e : v = Value.bool bs[i] := (Option.some.inj hu).trans ru
  rw [e]
  have e2 : bs.getD i d = bs[i] := by rw [List.getD_eq_getElem?_getD, List.getElem?_eq_getElem (by omega)]; rfl
  have hQ : Q (bs.getD i d) s := hQ
  rw [e2] at hQ
  exact wpAny_truthy_bool hQ
theorem call_allB (hc : X.calm = true) : CallR X (.builtin "all") (fun xs H Q => ∃ (p : Addr) (bs : List Bool), xs = [.ref p] ∧ SqL X.K H p (bs.map V.bl) ∧ Q (.bl (bs.all id)) H) := by
  intro pins s σ H xs us Q I r h
  obtain ⟨p, bs, rfl, hq, q⟩ := h
  obtain ⟨u, rfl, rx⟩ := vals1 r
  cases rx
  obtain ⟨its, rv, pl, hz⟩ := I.list hq
  have hl := rv.length
  rw [List.length_map] at hl
  have hne : p ≠ s.heap.objs.size := by
    obtain ⟨o, n, e, _⟩ := pl
    exact Nat.ne_of_lt (Heap.lt_size e)
  have hh := I.ok.hd hc
  refine call_all_walk (wpAny_pyIter_list pl.isList ?_)
  refine ⟨s.heap.objs.size, _, _, _, _, _, fun i => bs.getD i true, rfl, Walks.list (by exact hh) _ p hne its.toArray, ⟨⟨_, Heap.get?_push_size _ rfl, rfl, rfl⟩, pl.isList.at fun o e => Heap.get?_push_of_some _ e⟩, truths rv true, fun h' tk hk => ?_⟩
  refine ⟨.bl (bs.all id), H, I.kept (t' := tk) fun b o e => hk b o ?_ (Heap.get?_push_of_some _ e), ?_, q⟩
  · intro z
    rw [List.mem_singleton] at z
    exact absurd (Heap.lt_size e) (by rw [z]; exact Nat.lt_irrefl _)
  · show Value.bool _ = Value.bool _
    rw [List.size_toArray, ← hl, getD_all]
def Itv (n : Nat) (xv : Nat → V) : It := ⟨fun i _ => i < n, fun i H x H' => H' = H ∧ x = xv i, fun i _ => n = i⟩
theorem turn_walk {P : Program} {w : World} {K : PySem.W.Frag} {tg : Expr} (it : Addr) (n : Nat) (xv : Nat → V) (Pv : Nat → Value → Prop) (St : Nat → Heap → Prop) (ty : String)
    (W : ∀ A : Around, A.handled = none → Walks P w A it [it] [it] n Pv St) (hv : ∀ i v, Pv i v → RelV (xv i) v)
    (ho : ∀ i h, St i h → ∃ o vs, h.get? it = some o ∧ o.cls = .type ty ∧ o.data = .fields vs)
    (hn : ["enumerate", "zip", "dict_itemiterator", "dict_reverseitemiterator", "odict_iterator", "itertools.zip_longest", "itertools.pairwise"].contains ty = false)
    (hself : ∀ (A : Around) (i : Nat) (s : Shared) (Q : Value → Shared → Prop) (E : Value → Shared → Prop), St i s.heap → Q (.ref it) s → wpAny (model P w) A (pyIter (.ref it)) Q E s) : Turn P w K tg (Itv n xv) [it] it St where
  mem := by simp
  obj := fun i h st b hb => by
    have e : b = it := by simpa using hb
    subst e
    obtain ⟨o, vs, e, c, d⟩ := ho i h st
    exact ⟨o, e, fun v z => by rw [d] at z; cases z⟩
  keep := fun i h h' st k => (W { handled := none } rfl).frame i h h' st k
  item := by
    intro X hP hw hK hc i pins s σ H E I hf st hg
    subst hP hw hK
    obtain ⟨f0, f1, f2, f3, f4, f5⟩ := hf it (by simp)
    refine (W X.A (I.ok.hd hc)).item i s _ _ hg st fun v h' tk pv st' kk => ?_
    have I1 : Inv X pins σ H { s with heap := h', toks := tk } := I.turned (fun b o hb e => kk b o (by simpa using hb) e) f0 f1 f3 f4 f5
    obtain ⟨o, vs, e, c, d⟩ := ho (i + 1) h' st'
    exact ⟨v, rfl, go_of (s := { s with heap := h', toks := tk }) e c d hn ⟨xv i, H, I1, hv i v pv, ⟨rfl, rfl⟩, st', fun b hb => (hf b hb).1⟩⟩
  done := by
    intro X hP hw hK hc i pins s σ H E I hf st hg
    subst hP hw hK
    obtain ⟨f0, f1, f2, f3, f4, f5⟩ := hf it (by simp)
    have hg' : n = i := hg
    subst hg'
    refine (W X.A (I.ok.hd hc)).done s _ _ st fun h' tk kk => ⟨rfl, ?_⟩
    exact I.turned (fun b o hb e => kk b o (by simpa using hb) e) f0 f1 f3 f4 f5
  self := hself
def sgnV (x : Str) (i : Nat) : V := .str ⟨#[x.cps.toList.getD i 0]⟩
def iStr (t : TE) : TI := fun σ H R => t σ H fun v H1 => ∃ x : Str, v = .str x ∧ R (Itv x.cps.size (sgnV x)) H1
theorem sgn_rel {x : Str} {i : Nat} {v : Value} (h : SignAt x i v) : RelV (sgnV x i) v := by
  obtain ⟨c, u, hc, rfl⟩ := h
  refine ⟨u, ?_⟩
  have : x.cps.toList.getD i 0 = c := by
    rw [List.getD_eq_getElem?_getD, Array.getElem?_toList, hc]; rfl
  rw [this]
theorem pi_str {e tg : Expr} {t : TE} (he : PE X e t) : PI X tg e (iStr t) := by
  intro pins s σ H R I h
  refine thn (he pins s σ H _ I h) fun v s1 ⟨y, H1, I1, r1, q1⟩ => ?_
  obtain ⟨x, rfl, q⟩ := q1
  obtain ⟨tk, rfl⟩ := r1
  have fin : ∀ (o : Obj) (ty : String), o = { cls := .type ty, data := .fields #[.str x tk, .int 0 0] } → (["enumerate", "zip", "dict_itemiterator", "dict_reverseitemiterator", "odict_iterator", "itertools.zip_longest", "itertools.pairwise"].contains ty = false) →
      (∀ A : Around, A.handled = none → Walks X.prog X.w A s1.heap.objs.size [s1.heap.objs.size] [s1.heap.objs.size] x.cps.size (SignAt x) (fun i h => h.IsStrIter s1.heap.objs.size ty x tk i)) →
      (∀ (A : Around) (i : Nat) (s : Shared) (Q : Value → Shared → Prop) (E : Value → Shared → Prop), s.heap.IsStrIter s1.heap.objs.size ty x tk i → Q (.ref s1.heap.objs.size) s → wpAny (model X.prog X.w) A (pyIter (.ref s1.heap.objs.size)) Q E s) →
      PIE X pins σ tg R (.ref s1.heap.objs.size) { s1 with heap := s1.heap.push o } := by
    intro o ty eo hn W self
    subst eo
    refine ⟨s1.heap.objs.size, [s1.heap.objs.size], _, _, H1, rfl, I1.kept (t' := s1.toks) fun b o e => Heap.get?_push_of_some _ e, turn_walk s1.heap.objs.size x.cps.size (sgnV x) _ _ ty W (fun i v => sgn_rel) (fun i h st => ?_) hn self, ⟨_, Heap.get?_push_size _ rfl, rfl, rfl⟩, fun b hb => ?_, q⟩
    · obtain ⟨o, h1, h2, h3⟩ := st
      exact ⟨o, _, h1, h2, h3⟩
    · have e : b = s1.heap.objs.size := by simpa using hb
      subst e
      exact I1.fpOk (Nat.le_refl _) (I1.hok.fresh (Nat.le_refl _))
  cases ha : x.cps.all (· < 128)
  · exact wpAny_pyIter_wide ha (fin _ "str_iterator" rfl (by decide) (fun A hA => Walks.strWide hA _ x tk) (fun A i s Q E st hQ => wpAny_pyIter_striter_wide st hQ))
  · exact wpAny_pyIter_ascii ha (fin _ "str_ascii_iterator" rfl (by decide) (fun A hA => Walks.strAscii hA _ x tk) (fun A i s Q E st hQ => wpAny_pyIter_striter_ascii st hQ))
theorem turns_val {σ0 : St} {g : TG} {tt : TT} {te : TE} {Q : List V → Hp → Prop} {H1 : Hp} {n : Nat} {xv : Nat → V} (Pv : Nat → List V → Hp → Prop) (h0 : Pv 0 [] H1)
    (hs : ∀ i ys H, i < n → Pv i ys H → g (xv i) σ0 H fun σ2 H2 => Sle σ0 σ2 ∧ tt σ2 H2 fun b H3 => if b = true then te σ2 H3 (fun v H4 => ys.length < sizeLine ∧ Nxt n i Pv (ys ++ [v]) H4) else Nxt n i Pv ys H3)
    (hd : ∀ ys H, Pv n ys H → Q ys H) : cTurns (Itv n xv) σ0 g tt te Q H1 := by
  refine ⟨fun i m ys H => m = n - i ∧ i ≤ n ∧ Pv i ys H, ⟨n, by simp, Nat.zero_le _, h0⟩, ?_⟩
  rintro i m ys H ⟨rfl, hi, p⟩
  by_cases hlt : i < n
  · refine .inr ⟨hlt, fun x H' y => ?_⟩
    obtain ⟨e, y⟩ := y
    subst e y
    exact hs i ys _ hlt p
  · have e : i = n := by omega
    subst e
    exact .inl ⟨rfl, hd ys H p⟩
end
end L2
namespace L2
open PySem PySem.Spec PyProof.Rows
theorem orstand_led (t : SetTable) (n : Nat) : (t.orStandIn n).led = t.led := by
  unfold SetTable.orStandIn
  split <;> rfl
theorem laynew_led (t : SetTable) (es : Array (Int × Value)) (h : Int) (x : Value) : (layNew t es h x).2.1.led = t.led := by
  unfold layNew
  split
  · exact orstand_led _ _
  · rfl
theorem relay_led (t : SetTable) (es : Array (Int × Value)) (k : Nat) : (relayAll t es k).2.1.led = t.led := by
  unfold relayAll
  split
  · rename_i u order e
    have eu : u.led = t.led := by
      unfold SetTable.relaid SetTable.laid at e
      cases hc : SetTable.layClean (SetTable.sizeAbove k - 1) (es.map (·.1)) with
      | none => rw [hc] at e; cases e
      | some o =>
        rw [hc] at e
        injection e with e
        injection e with e1 e2
        rw [← e1]
    dsimp only
    split
    · exact eu
    · rfl
  · rfl
theorem relay_plain (t : SetTable) (es : Array (Int × Value)) (k : Nat) (hp : t.plain = false) : (relayAll t es k).2.1.plain = false := by
  unfold relayAll
  split
  · rename_i u order e
    have eu : u.plain = t.plain := by
      unfold SetTable.relaid SetTable.laid at e
      cases hc : SetTable.layClean (SetTable.sizeAbove k - 1) (es.map (·.1)) with
      | none => rw [hc] at e; cases e
      | some o =>
        rw [hc] at e
        injection e with e
        injection e with e1 e2
        rw [← e1]
    dsimp only
    split
    · exact eu.trans hp
    · rfl
  · rfl
def StrSet (P : Program) (w : World) (h : Heap) (a : Addr) (ss : List Str) : Prop :=
  ∃ (es : Array (Int × Value)) (ep : Nat) (t : SetTable), h.get? a = some { cls := .type "set", dict := none, data := .set es ep t, slots := #[] } ∧ ElemsOf (PySem.strKind P w) es.toList ∧
    StrsAre (es.toList.map (·.2)) ss ∧ es.size < scanBound ∧ t.fits es.size = true ∧ t.led = !w.params.followText "set-order" ∧ (es.size ≠ 0 → t.plain = false)
theorem strs_mem {x : Str} : ∀ {vs : List Value} {ss : List Str}, StrsAre vs ss → ((∃ v ∈ vs, Value.isStrOf x v = true) ↔ x ∈ ss)
  | _, _, .nil => by simp
  | _, _, .cons y t r => by
    have ih := strs_mem (x := x) r
    have hy : Value.isStrOf x (.str y t) = true ↔ x = y := by
      constructor
      · intro h
        obtain ⟨u, e⟩ := Value.isStrOf_shape h
        cases e; rfl
      · rintro rfl; simp [Value.isStrOf]
    constructor
    · rintro ⟨v, hv, hp⟩
      rcases List.mem_cons.mp hv with rfl | hv
      · rw [hy.mp hp]; exact List.mem_cons_self
      · exact List.mem_cons_of_mem _ (ih.mp ⟨v, hv, hp⟩)
    · intro h
      rcases List.mem_cons.mp h with h | h
      · exact ⟨_, List.mem_cons_self, hy.mpr h⟩
      · obtain ⟨v, hv, hp⟩ := ih.mpr h
        exact ⟨v, List.mem_cons_of_mem _ hv, hp⟩
theorem strs_perm {es es1 : List (Int × Value)} {ss : List Str} {k : Int} {x : Str} {t : Tok} (hS : StrsAre (es.map (·.2)) ss) (p : es1.Perm (es ++ [(k, .str x t)])) : ∃ ss1, StrsAre (es1.map (·.2)) ss1 ∧ ss1.Perm (ss ++ [x]) := by
  have hall : ∀ v, v ∈ es1.map (·.2) → ∃ y u, v = .str y u := by
    intro v hv
    obtain ⟨e, he, rfl⟩ := List.mem_map.mp hv
    rcases List.mem_append.mp (p.mem_iff.mp he) with z | z
    · exact hS.all _ (List.mem_map_of_mem z)
    · rw [List.mem_singleton] at z; subst z; exact ⟨x, t, rfl⟩
  refine ⟨_, strsAre_map _ hall, ?_⟩
  have q := (p.map (·.2)).map strOf
  rw [List.map_append, List.map_append, hS.strs] at q
  exact q
theorem strs_perm' {es es1 : List (Int × Value)} {ss : List Str} (hS : StrsAre (es.map (·.2)) ss) (p : es1.Perm es) : ∃ ss1, StrsAre (es1.map (·.2)) ss1 ∧ ss1.Perm ss := by
  have hall : ∀ v, v ∈ es1.map (·.2) → ∃ y u, v = .str y u := by
    intro v hv
    obtain ⟨e, he, rfl⟩ := List.mem_map.mp hv
    exact hS.all _ (List.mem_map_of_mem (p.mem_iff.mp he))
  refine ⟨_, strsAre_map _ hall, ?_⟩
  have q := (p.map (·.2)).map strOf
  rw [hS.strs] at q
  exact q
section
variable {P : Program} {w : World} {A : Around} {E : Value → Shared → Prop} {s : Shared} {a : Addr} {ss : List Str}
theorem tset_store {es es' : Array (Int × Value)} {ep : Nat} {t t' : SetTable} (ho : s.heap.get? a = some { cls := .type "set", dict := none, data := .set es ep t, slots := #[] }) :
    (s.heap.update a (Obj.putSet es' t')).get? a = some { cls := .type "set", dict := none, data := .set es' (ep + 1) t', slots := #[] } := by
  have q := Heap.get?_update_self (Obj.putSet es' t') ho (by rw [putSet_of es' t' rfl]; rfl)
  rw [putSet_of es' t' rfl] at q
  exact q
theorem tset_tail {g : Bool → Sem Unit} (hg : ∀ (b : Bool) (s1 : Shared) (Q' : Unit → Shared → Prop), Q' () s1 → wpAny (model P w) A (g b) Q' E s1) {es es1 : Array (Int × Value)} {ep : Nat} {t t2 : SetTable} {ss1 : List Str}
    (ho : s.heap.get? a = some { cls := .type "set", dict := none, data := .set es ep t, slots := #[] }) (e1 : ElemsOf (PySem.strKind P w) es1.toList) (e2 : StrsAre (es1.toList.map (·.2)) ss1) (e3 : es1.size < scanBound) (e4 : t2.fits es1.size = true)
    (e5 : t2.led = !w.params.followText "set-order") (e6 : t2.plain = false) {wasD : Bool} {R : Option Bool → Shared → Prop} (h : ∀ h' ss', Heap.SameBut a s.heap h' → StrSet P w h' a ss' → ss'.Perm ss1 → R (some true) { s with heap := h' }) :
    wpAny (model P w) A (do
        storeSet a es1 t2
        if (!wasD && t2.tooFull) = true then do
            g (relayAll t2 es1 (SetTable.grown es1.size)).2.2
            storeSet a (relayAll t2 es1 (SetTable.grown es1.size)).1 (relayAll t2 es1 (SetTable.grown es1.size)).2.1
            pure (some true)
          else pure (some true)) R E s := by
  refine wpAny_bind (wpAny_storeSet_of ho rfl ?_ (fits_of_scanBound e3))
  have o1 : (s.heap.update a (Obj.putSet es1 t2)).get? a = _ := tset_store (s := s) ho
  have b1 := Heap.SameBut.update s.heap a (Obj.putSet es1 t2)
  split
  · have p := relayAll_perm t2 es1 (SetTable.grown es1.size)
    have f := relayAll_fits t2 es1 (SetTable.grown es1.size)
    have l := relay_led t2 es1 (SetTable.grown es1.size)
    have pl := relay_plain t2 es1 (SetTable.grown es1.size) e6
    generalize relayAll t2 es1 (SetTable.grown es1.size) = Rl at p f l pl ⊢
    obtain ⟨es2, t3, gv⟩ := Rl
    dsimp only at p f l pl ⊢
    have z2 : es2.size = es1.size := by rw [← Array.length_toList, p.length_eq, Array.length_toList]
    obtain ⟨ss2, q1, q2⟩ := strs_perm' e2 p
    refine wpAny_bind (hg _ _ _ (wpAny_bind (wpAny_storeSet_of o1 rfl ?_ (fits_of_scanBound (by rw [z2]; exact e3)))))
    have o2 : ((s.heap.update a (Obj.putSet es1 t2)).update a (Obj.putSet es2 t3)).get? a = _ := tset_store (s := { s with heap := s.heap.update a (Obj.putSet es1 t2) }) o1
    exact wpAny_pure (h _ ss2 (b1.trans (Heap.SameBut.update _ a _)) ⟨es2, _, t3, o2, e1.perm p, q1, by rw [z2]; exact e3, f, l.trans e5, fun _ => pl⟩ q2)
  · exact wpAny_pure (h _ ss1 b1 ⟨es1, _, t2, o1, e1, e2, e3, e4, e5, fun _ => e6⟩ (List.Perm.refl _))
theorem tset_add {x : Str} {tk : Tok} {Q : Bool → Shared → Prop} (hS : StrSet P w s.heap a ss) (room : ss.length + 1 < scanBound)
    (h : ∀ h' ss', Heap.SameBut a s.heap h' → StrSet P w h' a ss' → (if x ∈ ss then ss' = ss else ss'.Perm (ss ++ [x])) → Q (!decide (x ∈ ss)) { s with heap := h' }) :
    wpAny (model P w) A (setAddHashed a (.str x tk) ((PySem.strKind P w).hash x)) Q E s := by
  obtain ⟨es, ep, t, ho, e1, e2, e3, e4, e5, e6⟩ := hS
  have hk : (PySem.strKind P w).is x (.str x tk) = true := strKind_is P w x tk
  have hsc : Value.scannable (.str x tk) = true := rfl
  have hz : ss.length = es.size := by rw [← e2.strs, List.length_map, List.length_map, Array.length_toList]
  unfold setAddHashed setAddHashedIn
  refine wpAny_holding (wpAny_bind (wpAny_setState_of ho rfl e4 ?_))
  dsimp only
  rw [byScan_of hsc e3 e1, if_pos rfl]
  unfold setAddByScan
  refine wpAny_bind (wpAny_bind (wpAny_rule (wpAny_bind (wpAny_setScan_of hk ho rfl e4 e1 ?_))))
  cases hr : List.findIdx? (fun e => (PySem.strKind P w).is x e.2) es.toList with
  | some j =>
    dsimp only
    obtain ⟨hj, hp, _⟩ := List.findIdx?_eq_some_iff_getElem.mp hr
    have hm : x ∈ ss := (strs_mem e2).mp ⟨_, List.mem_map_of_mem (List.getElem_mem hj), hp⟩
    have q := h s.heap ss (Heap.SameBut.refl a _) ⟨es, ep, t, ho, e1, e2, e3, e4, e5, e6⟩ (by rw [if_pos hm])
    rw [decide_eq_true hm] at q
    exact wpAny_pure (wpAny_pure q)
  | none =>
    dsimp only
    have hm : ¬ x ∈ ss := fun z => by
      obtain ⟨v, hv, hp⟩ := (strs_mem e2).mpr z
      obtain ⟨e, he, rfl⟩ := List.mem_map.mp hv
      have q := List.findIdx?_eq_none_iff.mp hr e he
      rw [show (PySem.strKind P w).is x e.2 = true from hp] at q
      cases q
    have gw : ∀ (b : Bool) (s1 : Shared) (Q' : Unit → Shared → Prop), Q' () s1 → wpAny (model P w) A (match b with | true => rule "set.scan.the-table-gave-way" | false => pure ()) Q' E s1 := fun b s1 Q' hq => by
      cases b
      · exact wpAny_pure hq
      · exact wpAny_rule hq
    have p := layNew_perm t es ((PySem.strKind P w).hash x) (.str x tk)
    have f := layNew_fits t es ((PySem.strKind P w).hash x) (.str x tk)
    have l := laynew_led t es ((PySem.strKind P w).hash x) (.str x tk)
    generalize layNew t es ((PySem.strKind P w).hash x) (.str x tk) = L at p f l ⊢
    obtain ⟨es1, t1, wasD, gv⟩ := L
    dsimp only at p f l ⊢
    rw [Array.toList_push] at p
    have d1 : ElemsOf (PySem.strKind P w) es1.toList := (e1.push hk hsc).perm p
    obtain ⟨ss1, d2, d3⟩ := strs_perm e2 p
    have z1 : es1.size = es.size + 1 := by rw [← Array.length_toList, p.length_eq, List.length_append, Array.length_toList]; rfl
    have d4 : es1.size < scanBound := by rw [z1, ← hz]; exact room
    have fin : ∀ h' ss', Heap.SameBut a s.heap h' → StrSet P w h' a ss' → ss'.Perm ss1 → Q true { s with heap := h' } := fun h' ss' b1 b2 b3 => by
      have q := h h' ss' b1 b2 (by rw [if_neg hm]; exact b3.trans d3)
      rw [decide_eq_false hm] at q
      exact q
    refine wpAny_bind (gw _ _ _ ?_)
    split
    · rename_i hpl
      refine wpAny_bind ?_
      rw [hashByValue_scannable 8 hsc]
      refine wpAny_pure ?_
      refine tset_tail gw ho d1 d2 d4 (SetTable.fits_plain_off f) (l.trans e5) rfl fun h' ss' b1 b2 b3 => ?_
      exact wpAny_pure (fin h' ss' b1 b2 b3)
    · rename_i hpl
      refine wpAny_bind (wpAny_pure ?_)
      rw [if_pos rfl]
      refine tset_tail gw ho d1 d2 d4 f (l.trans e5) (by simpa using hpl) fun h' ss' b1 b2 b3 => ?_
      exact wpAny_pure (fin h' ss' b1 b2 b3)
end
end L2
namespace L2
open PySem PySem.Spec PyProof.Rows
theorem StrSet.at {P : Program} {w : World} {h h' : Heap} {a : Addr} {ss : List Str} (x : StrSet P w h a ss) (k : ∀ o, h.get? a = some o → h'.get? a = some o) : StrSet P w h' a ss := by
  obtain ⟨es, ep, t, ho, r⟩ := x
  exact ⟨es, ep, t, k _ ho, r⟩
def Once (val : Nat → Str) (i : Nat) (ss : List Str) : Prop := ss.Nodup ∧ ss.length ≤ i ∧ ∀ x, x ∈ ss ↔ ∃ j, j < i ∧ val j = x
theorem Once.zero (val : Nat → Str) : Once val 0 [] := ⟨List.nodup_nil, Nat.le_refl _, fun x => by simp⟩
theorem Once.next {val : Nat → Str} {i : Nat} {ss ss' : List Str} (h : Once val i ss) (e : if val i ∈ ss then ss' = ss else ss'.Perm (ss ++ [val i])) : Once val (i + 1) ss' := by
  obtain ⟨h1, h2, h3⟩ := h
  by_cases hm : val i ∈ ss
  · rw [if_pos hm] at e
    subst e
    refine ⟨h1, by omega, fun x => (h3 x).trans ⟨fun ⟨j, a, b⟩ => ⟨j, by omega, b⟩, fun ⟨j, a, b⟩ => ?_⟩⟩
    by_cases hj : j < i
    · exact ⟨j, hj, b⟩
    · have : j = i := by omega
      subst this
      subst b
      exact (h3 _).mp hm
  · rw [if_neg hm] at e
    refine ⟨e.nodup_iff.mpr ?_, ?_, fun x => ?_⟩
    · rw [List.nodup_append]
      exact ⟨h1, by simp, fun y hy z hz => by rw [List.mem_singleton] at hz; subst hz; rintro rfl; exact hm hy⟩
    · rw [e.length_eq, List.length_append]
      simpa using h2
    · rw [e.mem_iff, List.mem_append, h3 x, List.mem_singleton]
      constructor
      · rintro (⟨j, a, b⟩ | rfl)
        · exact ⟨j, by omega, b⟩
        · exact ⟨i, by omega, rfl⟩
      · rintro ⟨j, a, b⟩
        by_cases hj : j < i
        · exact .inl ⟨j, hj, b⟩
        · have : j = i := by omega
          subst this
          exact .inr b.symm
section
variable {P : Program} {w : World} {A : Around} {R : Result → Shared → Prop} {I : Addr} {fp wr : List Addr} {G : Array GenState → Array GenState → Prop} {n : Nat} {Pv : Nat → Value → Prop} {St : Nat → Shared → Prop}
theorem tset_loop (W : WalksS P w A.in1 I fp wr G n Pv St) (S : Addr) (nS : S ∉ fp) (val : Nat → Str) (hv : ∀ i v, Pv i v → ∃ t, v = .str (val i) t) (nb : n + 1 < scanBound) : ∀ (k i : Nat) (s : Shared) (ss : List Str), n - i = k → i ≤ n → St i s → StrSet P w s.heap S ss → Once val i ss →
    (∀ s' ss', Moved (S :: wr) G s s' → StrSet P w s'.heap S ss' → Once val n ss' → R (.ok (.ret .none)) s') → codeAny (model P w) A (.builtin "set.update.loop" ⟨[.ref S, .ref I], []⟩) R s := by
  have nw : S ∉ wr := fun z => nS (W.sub _ z)
  have sub : ∀ b ∈ wr, b ∈ S :: wr := fun b z => List.mem_cons_of_mem _ z
  intro k
  induction k with
  | zero =>
    intro i s ss hk hi st hS ho r
    have e : i = n := by omega
    subst e
    refine codeAny_builtin PyProof.Rows.F.entry_set_update_loop ?_
    rw [Around.under_plainId PyProof.Rows.F.plain_set_update_loop _]
    show wpAny _ A.in1 (pyNext (.ref I) >>= _) _ _ _
    refine wpAny_bind (W.done s _ _ st fun s1 m1 => wpAny_pure (r s1 ss (m1.mono sub) (hS.at fun o z => m1.heap S o nw z) ho))
  | succ k ih =>
    intro i s ss hk hi st hS ho r
    have lt : i < n := by omega
    refine codeAny_builtin PyProof.Rows.F.entry_set_update_loop ?_
    rw [Around.under_plainId PyProof.Rows.F.plain_set_update_loop _]
    show wpAny _ A.in1 (pyNext (.ref I) >>= _) _ _ _
    refine wpAny_bind (W.item i s _ _ lt st fun v s1 pv st1 m1 => ?_)
    obtain ⟨t, rfl⟩ := hv i v pv
    have hS1 : StrSet P w s1.heap S ss := hS.at fun o z => m1.heap S o nw z
    show wpAny _ A.in1 (holding [Value.str (val i) t] (setAdd S (.str (val i) t)) >>= _) _ _ s1
    refine wpAny_bind (wpAny_holding ?_)
    unfold setAdd
    refine wpAny_holding (wpAny_bind ((PySem.strKind P w).pyHash (strKind_is P w _ _) ?_))
    refine tset_add (s := { s1 with toks := s1.toks + 1 }) hS1 (by have := ho.2.1; omega) fun h2 ss2 sb2 hS2 q2 => ?_
    refine wpAny_pure ⟨plainId_quiet PyProof.Rows.F.plain_set_update_loop _, ih (i + 1) _ ss2 (by omega) lt (W.frame _ s1 _ _ st1 (Nat.le_succ _) fun b hb o e => ?_) hS2 (ho.next q2) fun s3 ss3 m3 hS3 o3 => ?_⟩
    · rw [sb2.2 b (fun z : b = S => nS (by rw [← z]; exact hb))]; exact e
    · refine r s3 ss3 (Moved.trans W.gtrans ((m1.mono sub).then_heap (Nat.le_succ _) fun b o hb e => ?_) m3) hS3 o3
      rw [sb2.2 b (fun z : b = S => hb (by rw [z]; exact List.mem_cons_self))]; exact e
end
section
variable {P : Program} {w : World} {A : Around} {E : Value → Shared → Prop} {s : Shared}
abbrev setO (w : World) : Obj := { cls := .type "set", dict := none, data := .set #[] 0 (.fresh 0 0 (!w.params.followText "set-order")), slots := #[] }
theorem setO_ok (P : Program) (w : World) {h : Heap} {a : Addr} (e : h.get? a = some (setO w)) : StrSet P w h a [] := ⟨#[], 0, _, e, fun e he => by simp at he, .nil, by show 0 < scanBound; decide, by rfl, rfl, fun z => absurd rfl z⟩
theorem code_setT (v : Value) {Q1 : Value → Shared → Prop} (h : Q1 (.ref s.heap.objs.size) { s with heap := s.heap.push (setO w) }) : codeAny (model P w) A (.call (.builtin "set.__new__") ⟨[.type "set", v], []⟩) (wants Q1 E) s := by
  refine codeAny_of_tree ?_
  show wpAny _ A.in1 (do checkBuiltinCall "set.__new__" ⟨[.type "set", v], []⟩; again (.builtin "set.__new__" ⟨[.type "set", v], []⟩)) _ _ s
  refine wpAny_bind (wpAny_of_eq (PySem.F.newCall_set_1 v) (wpAny_pure ⟨plainId_quiet PySem.F.plain_set_new _, codeAny_builtin PySem.F.entry_set_new ?_⟩))
  rw [Around.under_plainId PySem.F.plain_set_new _]
  unfold Builtin.«set.__new__» Builtin.Frozenset.newClass
  have hsub := sub_set_self
  obtain ⟨hp, g, d, tk, os⟩ := s
  dsimp only
  wp_walk
  refine wpAny_askSetting (wpAny_pure ?_)
  dsimp only
  simp only [newObj]
  exact wpAny_bind (wpAny_alloc (wpAny_pure (wpAny_pure h)))
set_option maxHeartbeats 3200000 in
theorem call_setT {l : Addr} {items : Array Value} {ss0 : List Str} {Q : Value → Shared → Prop} (hh : A.handled = none) (hl : s.heap.IsList l items) (hi : StrsAre items.toList ss0) (hb : items.size + 1 < scanBound)
    (h : ∀ (h' : Heap) (tk : Nat) (ss : List Str), StrSet P w h' s.heap.objs.size ss → Once (fun i => ss0.getD i default) items.size ss → (∀ b o, b < s.heap.objs.size → s.heap.get? b = some o → h'.get? b = some o) → Q (.ref s.heap.objs.size) { s with heap := h', toks := tk }) :
    wpAny (model P w) A (call (.type "set") [.ref l]) Q E s := by
  obtain ⟨c, tl, hmro⟩ := PySem.F.called_set.mro
  have hmade := PySem.F.called_set.made
  have hsub := PySem.F.called_set.sub
  refine wpAny_call (codeAny_of_tree ?_)
  show wpAny _ _ (callAny (.type "set") _) _ _ _
  refine wpAny_pure ⟨Code.quiet_builtin _ (by decide +kernel), codeAny_builtin PySem.F.entry_type_call ?_⟩
  rw [Around.under_plain (weight_type_call_type "set" [.ref l] []) rfl]
  have h1 := PySem.F.called_set.notType
  have h2 := PySem.F.called_set.canCreate
  have hct := PySem.F.typeCall_set_1 (.ref l)
  repeat (any_goals (first | assumption | wp_step))
  refine codeAny_mono (code_setT (.ref l) (E := E) (Q1 := fun obj s1 => obj = .ref s.heap.objs.size ∧ s1 = { s with heap := s.heap.push (setO w) }) ⟨rfl, rfl⟩) fun r s1 hr => ?_
  cases r with
  | error e => exact hr
  | ok fl =>
    cases fl with
    | ret obj =>
      obtain ⟨rfl, rfl⟩ := hr
      have hS : (s.heap.push (setO w)).get? s.heap.objs.size = some (setO w) := Heap.get?_push_size _ rfl
      have hT : Shared.TypeIs { s with heap := s.heap.push (setO w) } (.ref s.heap.objs.size) "set" := ⟨_, hS, rfl⟩
      have hli := PySem.F.called_set.init.lookup
      have hbi := PySem.F.called_set.init.bind (.ref s.heap.objs.size)
      repeat (any_goals (first | assumption | wp_step))
      refine codeAny_mono (codeAny_call_builtin (R := wants (fun r s2 => r = .none ∧ ∃ h' tk ss, s2 = { s with heap := h', toks := tk } ∧ StrSet P w h' s.heap.objs.size ss ∧ Once (fun i => ss0.getD i default) items.size ss ∧
          (∀ b o, b < s.heap.objs.size → s.heap.get? b = some o → h'.get? b = some o)) E) PySem.F.called_set.init.plain PySem.F.entry_set_init (check_set_init_1 hT ?_)) fun r2 s2 hr2 => ?_
      · obtain ⟨ol, hol, hcl, nl, hdl⟩ := hl
        obtain ⟨ocls, odict, odata, oslots⟩ := ol
        simp only at hcl hdl
        subst hcl; subst hdl
        have hol' : (s.heap.push (setO w)).get? l = some { cls := .type "list", dict := odict, data := .seq items nl, slots := oslots } := Heap.get?_push_of_some _ hol
        have hsls := PySem.F.sub_list_set
        have hslf := PySem.F.sub_list_frozenset
        have hne : (Value.type "list" == Value.type "dict") = false := by decide
        have hl1 : (s.heap.push (setO w)).IsList l items := ⟨_, hol', rfl, nl, rfl⟩
        unfold Builtin.«set.__init__» noKeywords Builtin.Frozenset.updateFrom
        generalize hPI : pyIter = PI
        wp_walk
        subst hPI
        refine wpAny_pyIter_list hl1 (wpAny_bind (wpAny_runValue ?_))
        have lS : l < s.heap.objs.size := Heap.lt_size hol
        have h3 : A.in1.in1.in1.handled = none := by simp [hh]
        have nI : l ≠ (s.heap.push (setO w)).objs.size := by
          rw [Heap.size_push]; exact Nat.ne_of_lt (Nat.lt_succ_of_lt lS)
        have nF : s.heap.objs.size ∉ [(s.heap.push (setO w)).objs.size, l] := by
          rw [Heap.size_push]; simp only [List.mem_cons, List.mem_singleton, List.not_mem_nil, or_false, not_or]
          exact ⟨Nat.ne_of_lt (Nat.lt_succ_self _), Nat.ne_of_gt lS⟩
        have hval : ∀ (i : Nat) (v : Value), items[i]? = some v → ∃ t, v = .str ((fun i => ss0.getD i default) i) t := fun i v hv => by
          have hv' : items.toList[i]? = some v := by rw [Array.getElem?_toList]; exact hv
          obtain ⟨x, t, rfl⟩ := hi.all v (List.mem_of_getElem? hv')
          refine ⟨t, ?_⟩
          have e := congrArg (fun z => z[i]?) hi.strs
          simp only [List.getElem?_map, hv'] at e
          show Value.str x t = Value.str (ss0.getD i default) t
          rw [List.getD_eq_getElem?_getD, ← e]
          rfl
        refine tset_loop ((Walks.list h3 _ l nI items).toS) s.heap.objs.size nF (fun i => ss0.getD i default) hval hb (items.size - 0) 0 _ [] (by omega) (Nat.zero_le _) ⟨⟨_, Heap.get?_push_size _ rfl, rfl, rfl⟩, (hl1.push _)⟩ (setO_ok P w (Heap.get?_push_of_some _ hS)) (Once.zero _) fun s' ss' hm hS' hO => ?_
        obtain ⟨h', g', d', tk', os'⟩ := s'
        cases (show g' = s.gens from hm.gens)
        cases (show d' = s.drawn from hm.drawn)
        cases (show os' = s.os from hm.os)
        show wpAny _ _ _ _ _ _
        refine wpAny_pure ?_
        show wpAny _ _ (ret Value.none) _ _ _
        refine wpAny_pure ⟨rfl, h', tk', ss', rfl, hS', hO, fun b o hb e => ?_⟩
        have b1 : b ≠ s.heap.objs.size := Nat.ne_of_lt hb
        have b2 : b ≠ (s.heap.push (setO w)).objs.size := by
          rw [Heap.size_push]; exact Nat.ne_of_lt (Nat.lt_succ_of_lt hb)
        exact hm.heap b o (by simp only [List.mem_cons, List.mem_singleton, List.not_mem_nil, or_false, not_or]; exact ⟨b1, b2⟩) (Heap.get?_push_of_some _ (Heap.get?_push_of_some _ e))
      · cases r2 with
        | error e => exact hr2
        | ok fl2 =>
          cases fl2 with
          | ret r =>
            obtain ⟨rfl, h', tk, ss, rfl, hS', hO, hk'⟩ := hr2
            repeat (any_goals (first | assumption | wp_step))
            exact h _ _ _ hS' hO hk'
          | _ => exact hr2.elim
    | _ => exact hr.elim
end
end L2
namespace L2
open PySem PySem.Spec PyProof.Rows
namespace FS
theorem entry_set_iter' : entryFor table "set.__iter__" = some Builtin.«frozenset.__iter__» := entryFor_alias (id' := "frozenset.__iter__") (by kernel_rfl) rfl (by decide +kernel) (by kernel_rfl)
theorem slot_sin : Slot "set_iterator" "__next__" "set_iterator.__next__" := .of (owner := "set_iterator") (n := "__next__") (by rw [typeLookup_type, builtinLookup_eq_fast]; kernel_rfl) (by decide +kernel) (by decide +kernel) (by decide +kernel) (by first | exact .inl (by decide +kernel) | exact .inr (by decide +kernel)) (by rw [isSubtype_type]; kernel_rfl)
theorem entry_sin : entryFor table "set_iterator.__next__" = some Builtin.«set_iterator.__next__» := entryFor_of_tree (by kernel_rfl)
theorem owner_si : Manifest.owners.lookup (String.ofList ['r', 'o', 't', 'a', 'r', 'e', 't', 'i', '_', 't', 'e', 's'].reverse) = some Manifest.sig_set_iterator := by kernel_rfl
theorem args_sin (a : Value) : argsOk "set_iterator.__next__" ⟨[a], []⟩ := by
  unfold argsOk; rw [signature?_of (id := "set_iterator.__next__") (n := ['_', '_', 't', 'x', 'e', 'n', '_', '_']) (o := ['r', 'o', 't', 'a', 'r', 'e', 't', 'i', '_', 't', 'e', 's']) (by kernel_rfl) owner_si]; kernel_rfl
theorem slot_sii : Slot "set_iterator" "__iter__" "set_iterator.__iter__" := .of (owner := "set_iterator") (n := "__iter__") (by rw [typeLookup_type, builtinLookup_eq_fast]; kernel_rfl) (by decide +kernel) (by decide +kernel) (by decide +kernel) (by first | exact .inl (by decide +kernel) | exact .inr (by decide +kernel)) (by rw [isSubtype_type]; kernel_rfl)
theorem entry_sii : entryFor table "set_iterator.__iter__" = some Builtin.«dict_keyiterator.__iter__» := entryFor_alias (id' := "dict_keyiterator.__iter__") (by kernel_rfl) (by first | rfl | decide +kernel | (unfold String.splitOn; simp +decide [String.splitOnAux])) (by decide +kernel) (by kernel_rfl)
theorem args_sii (a : Value) : argsOk "set_iterator.__iter__" ⟨[a], []⟩ := by
  unfold argsOk; rw [signature?_of (id := "set_iterator.__iter__") (n := ['_', '_', 'r', 'e', 't', 'i', '_', '_']) (o := ['r', 'o', 't', 'a', 'r', 'e', 't', 'i', '_', 't', 'e', 's']) (by kernel_rfl) owner_si]; kernel_rfl
end FS
theorem erase_perm {α : Type} : ∀ (l : List α) (i : Nat) (x : α), l[i]? = some x → (x :: l.eraseIdx i).Perm l
  | [], i, x, h => by simp at h
  | y :: l, 0, x, h => by simp at h; subst h; exact List.Perm.refl _
  | y :: l, i + 1, x, h => by
    have q := erase_perm l i x (by simpa using h)
    rw [List.eraseIdx_cons_succ]
    exact (List.Perm.swap y x _).trans (q.cons y)
section
variable {M : Model} {A : Around} {E : Value → Shared → Prop} {s : Shared}
theorem wp_choose {src : Source} {n : Nat} {Q : Nat → Shared → Prop} (hn : n ≠ 0) (h : ∀ i d, i < n → Q i { s with drawn := d }) : wpAny M A (choose src n) Q E s := fun Γ p _ => ⟨hn, h _ _ (Nat.mod_lt _ (Nat.pos_of_ne_zero hn))⟩
theorem wp_drawOrder {α : Type} : ∀ (n : Nat) (xs : List α) (s : Shared) (Q : List α → Shared → Prop), xs.length = n → (∀ ys d, ys.Perm xs → Q ys { s with drawn := d }) → wpAny M A (drawOrder n xs) Q E s
  | 0, xs, s, Q, hl, h => by
    have e : xs = [] := List.length_eq_zero_iff.mp hl
    subst e
    exact wpAny_pure (h [] s.drawn (List.Perm.refl _))
  | n + 1, [], s, Q, hl, h => by simp at hl
  | n + 1, y :: ys, s, Q, hl, h => by
    show wpAny M A (choose .order (y :: ys).length >>= _) Q E s
    refine wpAny_bind (wp_choose (by simp) fun i d hi => ?_)
    have e : (y :: ys)[i]? = some (y :: ys)[i] := List.getElem?_eq_getElem hi
    rw [e]
    dsimp only
    have p := erase_perm (y :: ys) i _ e
    refine wpAny_bind (wp_drawOrder n ((y :: ys).eraseIdx i) _ _ ?_ fun zs d2 pz => wpAny_pure (h _ d2 ((pz.cons _).trans p)))
    have := p.length_eq
    simp only [List.length_cons] at this hl ⊢
    omega
end
theorem pick_go {α : Type} (next : Nat → Nat) : ∀ (n k : Nat) (left : List α) (out : Array α), left.length = n → (pickOrder.go next n k left out).toList.Perm (out.toList ++ left)
  | 0, k, left, out, hl => by
    have e : left = [] := List.length_eq_zero_iff.mp hl
    subst e
    rw [pickOrder.go, List.append_nil]
  | n + 1, k, left, out, hl => by
    rw [pickOrder.go]
    have hi : next k % left.length < left.length := Nat.mod_lt _ (by omega)
    have e : left[next k % left.length]? = some left[next k % left.length] := List.getElem?_eq_getElem hi
    rw [e]
    dsimp only
    have p := erase_perm left _ _ e
    have l := p.length_eq
    simp only [List.length_cons] at l
    refine (pick_go next n (k + 1) _ _ (by omega)).trans ?_
    rw [Array.toList_push, List.append_assoc]
    exact List.Perm.append_left _ p
theorem pick_perm {α : Type} (next : Nat → Nat) (xs : Array α) : (pickOrder next xs).toList.Perm xs.toList := by
  have q := pick_go next xs.size 0 xs.toList #[] (by simp)
  simpa [pickOrder] using q
section
variable {P : Program} {w : World} {A : Around} {E : Value → Shared → Prop} {s : Shared} {a : Addr} {es : Array (Int × Value)} {ep : Nat} {t : SetTable}
theorem wp_setDrawn {Q : Bool → Shared → Prop} (ho : s.heap.get? a = some { cls := .type "set", dict := none, data := .set es ep t, slots := #[] }) (hf : t.fits es.size = true) (h : Q (!w.params.followText "set-order" && (!t.plain && decide (es.size > 1))) s) : wpAny (model P w) A (setDrawn a) Q E s := by
  unfold setDrawn
  refine wpAny_bind (wpAny_setState_of ho rfl hf ?_)
  unfold setsByText
  exact wpAny_bind (wpAny_bind (wpAny_askSetting (wpAny_pure (wpAny_pure h))))
theorem wp_setNextT {slot i : Nat} {Q : Option (Value × Nat) → Shared → Prop} (ho : s.heap.get? a = some { cls := .type "set", dict := none, data := .set es ep t, slots := #[] }) (hf : t.fits es.size = true) (hb : w.params.followText "set-order" = true)
    (h : Q (((pickOrder (w.params.setOrder a ep) es)[i]?).map fun e => (e.2, slot)) s) : wpAny (model P w) A (setNext a slot i ep) Q E s := by
  unfold setNext
  refine wpAny_bind (wpAny_setState_of ho rfl hf ?_)
  unfold setsByText
  refine wpAny_bind (wpAny_bind (wpAny_askSetting (wpAny_pure ?_)))
  show wpAny _ _ (if (w.params.followText "set-order") = true then _ else _) _ _ _
  rw [if_pos hb]
  rw [if_neg (by simp)]
  unfold setWalk
  refine wpAny_bind (wpAny_bind (wpAny_setState_of ho rfl hf ?_))
  unfold setsByText
  refine wpAny_bind (wpAny_bind (wpAny_askSetting (wpAny_pure ?_)))
  show wpAny _ _ (if (w.params.followText "set-order") = true then _ else _) _ _ _
  rw [if_pos hb]
  exact wpAny_bind (wpAny_askSetting (wpAny_pure (wpAny_pure h)))
theorem wp_setNext1 {slot i : Nat} {Q : Option (Value × Nat) → Shared → Prop} (ho : s.heap.get? a = some { cls := .type "set", dict := none, data := .set es ep t, slots := #[] }) (hf : t.fits es.size = true) (hb : w.params.followText "set-order" = false) (h1 : es.size ≤ 1) (hl : t.led = true)
    (h : Q (match es[SetTable.below t.place slot]?, t.place[SetTable.below t.place slot]? with | some (_, x), some j => some (x, j + 1) | _, _ => none) s) : wpAny (model P w) A (setNext a slot i ep) Q E s := by
  unfold setNext
  refine wpAny_bind (wpAny_setState_of ho rfl hf ?_)
  unfold setsByText
  refine wpAny_bind (wpAny_bind (wpAny_askSetting (wpAny_pure ?_)))
  show wpAny _ _ (if (w.params.followText "set-order") = true then _ else _) _ _ _
  rw [if_neg (by rw [hb]; exact Bool.false_ne_true)]
  show wpAny _ _ (if (!t.plain && decide (es.size > 1)) = true then _ else _) _ _ _
  rw [if_neg (by rw [Bool.and_eq_true]; rintro ⟨_, z⟩; have := of_decide_eq_true z; omega)]
  refine wpAny_bind ?_
  show wpAny _ _ (if (!t.led && !es.isEmpty) = true then _ else _) _ _ _
  rw [if_neg (by rw [hl]; simp)]
  exact wpAny_pure (wpAny_pure h)
end
end L2
namespace L2
open PySem PySem.Spec PyProof.Rows
abbrev sIt (a : Addr) (f0 : Value) (i n ep : Nat) : Obj := { cls := .type "set_iterator", dict := none, data := .fields #[f0, rawInt i, .ref a, rawInt n, rawInt ep], slots := #[] }
abbrev sOb (es : Array (Int × Value)) (ep : Nat) (t : SetTable) : Obj := { cls := .type "set", dict := none, data := .set es ep t, slots := #[] }
section
variable {P : Program} {w : World} {A : Around} {E : Value → Shared → Prop} {s : Shared} {a I : Addr} {es : Array (Int × Value)} {ep : Nat} {t : SetTable}
theorem sit_stop {T : Obj} {Q : Fin → Shared → Prop} {f0 : Value} {i n : Nat} {pre : Sem Unit} (hh : A.handled = none) (hI : s.heap.get? I = some (sIt a f0 i n ep))
    (hp : ∀ {Q' : Unit → Shared → Prop}, (∀ h1, Heap.SameBut I s.heap h1 → (∃ g0, h1.get? I = some (sIt a g0 i n ep)) → Q' () { s with heap := h1 }) → wpAny (model P w) A pre Q' E s)
    (hE : ∀ h' e, Heap.ExtBut I s.heap h' → (∃ o, h'.get? e = some o ∧ o.cls = .type "StopIteration") → E (.ref e) { s with heap := h' }) :
    wpAny (model P w) A (do pre; setField (.ref I) 2 .none; raiseNew (← newExc (.type "StopIteration") [])) Q E s := by
  refine wpAny_bind (hp fun h1 b1 hg => ?_)
  obtain ⟨g0, hI1⟩ := hg
  refine wpAny_bind (wpAny_setField_rec hI1 (by simp) fun h2 hI2 b2 => ?_)
  show wpAny _ _ (newExc (.type "StopIteration") [] >>= fun e => raiseNew e) _ _ _
  refine wpAny_bind ?_
  simp only [newExc, newTuple]
  refine wpAny_bind (wpAny_newObj_type ?_ (by size_fits))
  refine wpAny_bind (m := firstArgMember _ _) (wpAny_of_eq (a := Value.none) (by first | rfl | (simp only [firstArgMember]; rfl)) ?_)
  refine wpAny_newObj_type ?_ (by size_fits)
  simp only [raiseNew]
  refine wpAny_bind (wpAny_handled ?_)
  rw [hh]
  exact wpAny_bind (wpAny_pure (wpAny_throw (hE _ _ (((b1.trans b2).extBut.push _).push _) ⟨_, Heap.get?_push_size _ rfl, rfl⟩)))
end
section
variable {P : Program} {w : World} {a I : Addr} {es : Array (Int × Value)} {ep : Nat} {t : SetTable}
theorem walk_setI (hne : a ≠ I) (hf : t.fits es.size = true) (order : List Value) (sl : Nat → Nat)
    (nx : ∀ (A : Around) (E : Value → Shared → Prop) (s : Shared) (Q : Option (Value × Nat) → Shared → Prop) (i : Nat), i ≤ order.length → s.heap.get? a = some (sOb es ep t) → Q ((order[i]?).map fun x => (x, sl (i + 1))) s → wpAny (model P w) A (setNext a (sl i) i ep) Q E s) :
    ∀ A : Around, A.handled = none → Walks P w A I [I, a] [I] order.length (fun i v => order[i]? = some v) (fun i h => h.get? I = some (sIt a (rawInt (sl i)) i es.size ep) ∧ h.get? a = some (sOb es ep t)) := fun A hh => {
  sub := fun b hb => by simp at hb ⊢; exact .inl hb
  frame := fun i h h' st k => ⟨k I (by simp) _ st.1, k a (by simp) _ st.2⟩
  item := fun i s Q E hi st hQ => by
    obtain ⟨hI, ho⟩ := st
    have hT : s.TypeIs (.ref I) "set_iterator" := ⟨_, hI, rfl⟩
    unfold pyNext
    refine wpAny_bind (wpAny_attempt (wpAny_callSpecial?_slot (name := Str.ofString "__next__") hT FS.slot_sin (wpAny_call_entry FS.slot_sin hT FS.entry_sin ?_ (FS.args_sin _))))
    unfold Builtin.«set_iterator.__next__»
    refine wpAny_bind (wpAny_pure (wpAny_bind (wpAny_fieldsOf hI rfl ?_)))
    show wpAny _ _ (setEntries a >>= _) _ _ _
    refine wpAny_bind (wpAny_setEntries_of ho rfl hf ?_)
    rw [if_neg (by simp)]
    show wpAny _ _ (setNext a (sl i) i ep >>= _) _ _ _
    refine wpAny_bind (nx _ _ s _ i (Nat.le_of_lt hi) ho ?_)
    rw [List.getElem?_eq_getElem hi]
    show wpAny _ _ (setField (.ref I) 0 (rawInt (sl (i + 1))) >>= _) _ _ _
    refine wpAny_bind (wpAny_setField_rec hI (by simp) fun h1 hI1 b1 => wpAny_bind (wpAny_setField_rec hI1 (by simp) fun h2 hI2 b2 => ?_))
    refine wpAny_pure ⟨_, rfl, wpAny_pure (hQ _ h2 s.toks (List.getElem?_eq_getElem hi) ⟨hI2, ?_⟩ fun b o hb e => ?_)⟩
    · exact b2.extBut _ _ hne (b1.extBut _ _ hne ho)
    · have nb : b ≠ I := by simpa using hb
      exact b2.extBut _ _ nb (b1.extBut _ _ nb e)
  done := fun s Q E st hQ => by
    obtain ⟨hI, ho⟩ := st
    have hT : s.TypeIs (.ref I) "set_iterator" := ⟨_, hI, rfl⟩
    unfold pyNext
    refine wpAny_bind (wpAny_attempt (wpAny_callSpecial?_slot (name := Str.ofString "__next__") hT FS.slot_sin (wpAny_call_entry FS.slot_sin hT FS.entry_sin ?_ (FS.args_sin _))))
    unfold Builtin.«set_iterator.__next__»
    refine wpAny_bind (wpAny_pure (wpAny_bind (wpAny_fieldsOf hI rfl ?_)))
    show wpAny _ _ (setEntries a >>= _) _ _ _
    refine wpAny_bind (wpAny_setEntries_of ho rfl hf ?_)
    rw [if_neg (by simp)]
    show wpAny _ _ (setNext a (sl order.length) order.length ep >>= _) _ _ _
    refine wpAny_bind (nx _ _ s _ order.length (Nat.le_refl _) ho ?_)
    rw [List.getElem?_eq_none (Nat.le_refl _)]
    refine sit_stop (pre := pure ()) (T := sOb es ep t) (by exact hh) hI (fun q => wpAny_pure (q _ (Heap.SameBut.refl ..) ⟨_, hI⟩)) fun h' e k he => ?_
    obtain ⟨oe, h1, h2⟩ := he
    refine wpAny_bind (wpAny_isInstance (T := "StopIteration") (b := true) ⟨oe, h1, h2⟩ isSubtype_stop (wpAny_pure (hQ _ s.toks fun b o hb e => k _ _ (by simpa using hb) e)))
  self := fun i s Q E st hQ => by
    have hT : s.TypeIs (.ref I) "set_iterator" := ⟨_, st.1, rfl⟩
    refine wpAny_pyIter_slot hT FS.slot_sii (wpAny_call_entry FS.slot_sii hT FS.entry_sii ?_ (FS.args_sii _))
    exact wpAny_pure ⟨_, rfl, "set_iterator", _, hT, FS.slot_sin.lookup, hQ⟩ }
end
end L2
namespace L2
open PySem PySem.Spec PyProof.Rows
abbrev tOb (xs : Array Value) : Obj := { cls := .type "tuple", data := .seq xs }
section
variable {P : Program} {w : World} {a I T : Addr} {es : Array (Int × Value)} {ep : Nat} {t : SetTable}
theorem walk_setD (hne : a ≠ I) (hT0 : T ≠ I) (hf : t.fits es.size = true) (ps : List Nat) (order : List Value) (hl : order.length = ps.length) (hp : ∀ (i p : Nat), ps[i]? = some p → ∃ k x, es[p]? = some (k, x) ∧ order[i]? = some x) :
    ∀ A : Around, A.handled = none → Walks P w A I [I, a, T] [I] order.length (fun i v => order[i]? = some v) (fun i h => h.get? I = some (sIt a (.ref T) i es.size ep) ∧ h.get? a = some (sOb es ep t) ∧ h.get? T = some (tOb (ps.map fun (p : Nat) => rawInt p).toArray)) := fun A hh => {
  sub := fun b hb => by simp at hb ⊢; exact .inl hb
  frame := fun i h h' st k => ⟨k I (by simp) _ st.1, k a (by simp) _ st.2.1, k T (by simp) _ st.2.2⟩
  item := fun i s Q E hi st hQ => by
    obtain ⟨hI, ho, hTt⟩ := st
    have hT : s.TypeIs (.ref I) "set_iterator" := ⟨_, hI, rfl⟩
    unfold pyNext
    refine wpAny_bind (wpAny_attempt (wpAny_callSpecial?_slot (name := Str.ofString "__next__") hT FS.slot_sin (wpAny_call_entry FS.slot_sin hT FS.entry_sin ?_ (FS.args_sin _))))
    unfold Builtin.«set_iterator.__next__»
    refine wpAny_bind (wpAny_pure (wpAny_bind (wpAny_fieldsOf hI rfl ?_)))
    show wpAny _ _ (setEntries a >>= _) _ _ _
    refine wpAny_bind (wpAny_setEntries_of ho rfl hf ?_)
    rw [if_neg (by simp)]
    show wpAny _ _ (seqItems? (.ref T) >>= _) _ _ _
    refine wpAny_bind (wpAny_seqItems hTt rfl ?_)
    have hip : i < ps.length := by rw [← hl]; exact hi
    obtain ⟨k, x, h1, h2⟩ := hp i _ (List.getElem?_eq_getElem hip)
    have e1 : ((ps.map fun (p : Nat) => rawInt p).toArray)[i]? = some (rawInt ((ps[i] : Nat) : Int)) := by simp [hip]
    show wpAny _ _ (match ((ps.map fun (p : Nat) => rawInt p).toArray)[((i : Int)).toNat]? with | some (.int place _) => _ | some _ => _ | none => _) _ _ _
    rw [Int.toNat_natCast, e1]
    show wpAny _ _ (setNextDrawn a ps[i] ep >>= _) _ _ _
    unfold setNextDrawn
    refine wpAny_bind (wpAny_bind (wpAny_setState_of ho rfl hf ?_))
    dsimp only
    rw [if_neg (by simp), h1]
    refine wpAny_pure (wpAny_bind (wpAny_setField_rec hI (by simp) fun h3 hI3 b3 => ?_))
    refine wpAny_pure ⟨_, rfl, wpAny_pure (hQ _ h3 s.toks h2 ⟨hI3, b3.extBut _ _ hne ho, b3.extBut _ _ hT0 hTt⟩ fun b o hb e => b3.extBut _ _ (by simpa using hb) e)⟩
  done := fun s Q E st hQ => by
    obtain ⟨hI, ho, hTt⟩ := st
    have hT : s.TypeIs (.ref I) "set_iterator" := ⟨_, hI, rfl⟩
    unfold pyNext
    refine wpAny_bind (wpAny_attempt (wpAny_callSpecial?_slot (name := Str.ofString "__next__") hT FS.slot_sin (wpAny_call_entry FS.slot_sin hT FS.entry_sin ?_ (FS.args_sin _))))
    unfold Builtin.«set_iterator.__next__»
    refine wpAny_bind (wpAny_pure (wpAny_bind (wpAny_fieldsOf hI rfl ?_)))
    show wpAny _ _ (setEntries a >>= _) _ _ _
    refine wpAny_bind (wpAny_setEntries_of ho rfl hf ?_)
    rw [if_neg (by simp)]
    show wpAny _ _ (seqItems? (.ref T) >>= _) _ _ _
    refine wpAny_bind (wpAny_seqItems hTt rfl ?_)
    have e1 : ((ps.map fun (p : Nat) => rawInt p).toArray)[order.length]? = none := by simp [hl]
    show wpAny _ _ (match ((ps.map fun (p : Nat) => rawInt p).toArray)[((order.length : Int)).toNat]? with | some (.int place _) => _ | some _ => _ | none => _) _ _ _
    rw [Int.toNat_natCast, e1]
    refine sit_stop (pre := setField (.ref I) 0 (rawInt 0)) (T := sOb es ep t) (by exact hh) hI (fun q => wpAny_setField_rec hI (by simp) fun h1 hI1 b1 => q _ b1 ⟨_, hI1⟩) fun h' e k he => ?_
    obtain ⟨oe, h1, h2⟩ := he
    refine wpAny_bind (wpAny_isInstance (T := "StopIteration") (b := true) ⟨oe, h1, h2⟩ isSubtype_stop (wpAny_pure (hQ _ s.toks fun b o hb e => k _ _ (by simpa using hb) e)))
  self := fun i s Q E st hQ => by
    have hT : s.TypeIs (.ref I) "set_iterator" := ⟨_, st.1, rfl⟩
    refine wpAny_pyIter_slot hT FS.slot_sii (wpAny_call_entry FS.slot_sii hT FS.entry_sii ?_ (FS.args_sii _))
    exact wpAny_pure ⟨_, rfl, "set_iterator", _, hT, FS.slot_sin.lookup, hQ⟩ }
end
theorem below_lt {p j : Nat} (h : j ≤ p) : SetTable.below #[p] j = 0 := by
  unfold SetTable.below
  show SetTable.below.go #[p] j 1 0 1 = 0
  unfold SetTable.below.go
  have e : ¬ (#[p] : Array Nat).getD ((0 + 1) / 2) j < j := by show ¬ p < j; omega
  rw [if_pos (by decide)]
  dsimp only
  rw [if_neg e]
  rfl
theorem below_ge {p j : Nat} (h : p < j) : SetTable.below #[p] j = 1 := by
  unfold SetTable.below
  show SetTable.below.go #[p] j 1 0 1 = 1
  unfold SetTable.below.go
  have e : (#[p] : Array Nat).getD ((0 + 1) / 2) j < j := by show p < j; omega
  rw [if_pos (by decide)]
  dsimp only
  rw [if_pos e]
  rfl
theorem below_nil (j : Nat) : SetTable.below #[] j = 0 := rfl
section
variable {P : Program} {w : World} {A : Around} {E : Value → Shared → Prop} {s : Shared} {a : Addr} {ss : List Str}
theorem iter_setT {Q : Value → Shared → Prop} (hS : StrSet P w s.heap a ss)
    (h : ∀ (I : Addr) (fp : List Addr) (vs : List Value) (ss1 : List Str) (St : Nat → Heap → Prop) (h1 : Heap) (d : Drawn), StrsAre vs ss1 → ss1.Perm ss → (∀ b o, s.heap.get? b = some o → h1.get? b = some o) → (∀ A : Around, A.handled = none → Walks P w A I fp [I] vs.length (fun i v => vs[i]? = some v) St) →
      St 0 h1 → I ∈ fp → (∀ b ∈ fp, b < h1.objs.size ∧ (b = a ∨ s.heap.objs.size ≤ b)) → s.heap.objs.size ≤ I → s.heap.objs.size ≤ h1.objs.size → Q (.ref I) { s with heap := h1, drawn := d }) : wpAny (model P w) A (pyIter (.ref a)) Q E s := by
  obtain ⟨es, ep, t, ho, e1, e2, e3, e4, e5, e6⟩ := hS
  have hT : s.TypeIs (.ref a) "set" := ⟨_, ho, rfl⟩
  have ha : a < s.heap.objs.size := Heap.lt_size ho
  have hp4 : t.place.size = es.size := by
    unfold SetTable.fits at e4
    rw [Bool.and_eq_true] at e4
    exact eq_of_beq e4.1
  refine wpAny_pyIter_slot hT PySem.F.slot_set_iter (wpAny_call_entry PySem.F.slot_set_iter hT FS.entry_set_iter' ?_ (PySem.F.args_set_iter_1 _))
  unfold Builtin.«frozenset.__iter__» Builtin.Frozenset.slot0
  refine wpAny_bind (wpAny_bind (wpAny_pure (wpAny_pure ?_)))
  unfold Builtin.Frozenset.sizeOf
  refine wpAny_bind (wpAny_bind (wpAny_setEntries_of ho rfl e4 (wpAny_pure ?_)))
  refine wpAny_bind (wp_setDrawn ho e4 ?_)
  dsimp only
  cases hb : w.params.followText "set-order" with
  | true =>
    rw [if_neg (by simp)]
    refine wpAny_bind (wpAny_pure (wpAny_bind (wpAny_setEpoch_of ho rfl e4 ?_)))
    show wpAny _ _ (newFields "set_iterator" _ >>= _) _ _ _
    refine wpAny_bind (wpAny_newObj_type (wpAny_pure ⟨_, rfl, "set_iterator", _, ⟨_, Heap.get?_push_size _ rfl, rfl⟩, FS.slot_sin.lookup, ?_⟩) (by show 5 ≤ _; decide))
    have p := pick_perm (w.params.setOrder a ep) es
    obtain ⟨ss1, q1, q2⟩ := strs_perm' e2 p
    refine h s.heap.objs.size [s.heap.objs.size, a] _ ss1 _ _ s.drawn q1 q2 (fun b o e => Heap.get?_push_of_some _ e) (walk_setI (ep := ep) (es := es) (t := t) (Nat.ne_of_lt ha) e4 _ (fun _ => 0) ?_) ⟨Heap.get?_push_size _ rfl, Heap.get?_push_of_some _ ho⟩ (by simp) ?_ (Nat.le_refl _) (by rw [Heap.size_push]; exact Nat.le_succ _)
    · intro A' E' s' Q' i hi ho' hq
      refine wp_setNextT ho' e4 hb ?_
      rw [List.getElem?_map, Array.getElem?_toList, Option.map_map] at hq
      exact hq
    · intro b hbm
      rw [Heap.size_push]
      simp at hbm
      rcases hbm with rfl | rfl
      · exact ⟨Nat.lt_succ_self _, .inr (Nat.le_refl _)⟩
      · exact ⟨Nat.lt_succ_of_lt ha, .inl rfl⟩
  | false =>
    have led : t.led = true := by rw [e5, hb]; rfl
    by_cases hz : es.size > 1
    · have pl : t.plain = false := e6 (by omega)
      rw [if_pos (by rw [pl, decide_eq_true hz]; rfl)]
      refine wpAny_bind (wp_drawOrder es.size (List.range es.size) s _ (by simp) fun ps d pp => ?_)
      refine wpAny_bind (wpAny_newTuple (s := { s with drawn := d }) ?_ (by rw [List.length_map, pp.length_eq, List.length_range]; exact fits_of_scanBound e3))
      have ho1 : (s.heap.push (tOb (ps.map fun (p : Nat) => rawInt p).toArray)).get? a = some (sOb es ep t) := Heap.get?_push_of_some _ ho
      refine wpAny_bind (wpAny_setEpoch_of (s := { s with heap := s.heap.push (tOb (ps.map fun (p : Nat) => rawInt p).toArray), drawn := d }) ho1 rfl e4 ?_)
      show wpAny _ _ (newFields "set_iterator" _ >>= _) _ _ _
      refine wpAny_bind (wpAny_newObj_type (wpAny_pure ⟨_, rfl, "set_iterator", _, ⟨_, Heap.get?_push_size _ rfl, rfl⟩, FS.slot_sin.lookup, ?_⟩) (by show 5 ≤ _; decide))
      have hlt : ∀ p ∈ ps, p < es.size := fun p hm => List.mem_range.mp (pp.mem_iff.mp hm)
      have ep1 : (ps.filterMap fun p => es[p]?).Perm es.toList := by
        have q := pp.filterMap fun p => es[p]?
        rw [filterMap_getElem?_range] at q
        exact q
      have hfm : ∀ l : List Nat, (∀ p ∈ l, p < es.size) → (l.filterMap fun p => es[p]?).length = l.length ∧ ∀ (i p : Nat), l[i]? = some p → ∃ k x, es[p]? = some (k, x) ∧ ((l.filterMap fun p => es[p]?).map (·.2))[i]? = some x := by
        intro l
        induction l with
        | nil => intro _; exact ⟨rfl, fun i p z => by simp at z⟩
        | cons c l ih =>
          intro hm
          obtain ⟨i1, i2⟩ := ih fun p hp => hm p (List.mem_cons_of_mem _ hp)
          have hcl : c < es.size := hm c List.mem_cons_self
          have hc : es[c]? = some es[c] := Array.getElem?_eq_getElem hcl
          rw [List.filterMap_cons, hc]
          refine ⟨by simp [i1], fun i p z => ?_⟩
          cases i with
          | zero =>
            have e : c = p := by simpa using z
            subst e
            exact ⟨_, _, hc, by simp⟩
          | succ i =>
            obtain ⟨k, x, a1, a2⟩ := i2 i p (by simpa using z)
            exact ⟨k, x, a1, by simpa using a2⟩
      obtain ⟨f1, f2⟩ := hfm ps hlt
      obtain ⟨ss1, q1, q2⟩ := strs_perm' e2 ep1
      have sz1 : (s.heap.push (tOb (ps.map fun (p : Nat) => rawInt p).toArray)).objs.size = s.heap.objs.size + 1 := Heap.size_push ..
      refine h (s.heap.push (tOb (ps.map fun (p : Nat) => rawInt p).toArray)).objs.size [(s.heap.push (tOb (ps.map fun (p : Nat) => rawInt p).toArray)).objs.size, a, s.heap.objs.size] _ ss1 _ _ d q1 q2 (fun b o e => Heap.get?_push_of_some _ (Heap.get?_push_of_some _ e))
        (walk_setD (ep := ep) (es := es) (t := t) (T := s.heap.objs.size) ?_ ?_ e4 ps _ (by rw [List.length_map, f1]) f2) ⟨Heap.get?_push_size _ rfl, Heap.get?_push_of_some _ ho1, Heap.get?_push_of_some _ (Heap.get?_push_size _ rfl)⟩ (by simp) ?_ ?_ ?_
      · rw [sz1]; exact Nat.ne_of_lt (Nat.lt_succ_of_lt ha)
      · rw [sz1]; exact Nat.ne_of_lt (Nat.lt_succ_self _)
      · intro b hbm
        rw [Heap.size_push, sz1]
        rw [sz1] at hbm
        simp at hbm
        rcases hbm with rfl | rfl | rfl
        · exact ⟨Nat.lt_succ_self _, .inr (Nat.le_succ _)⟩
        · exact ⟨Nat.lt_succ_of_lt (Nat.lt_succ_of_lt ha), .inl rfl⟩
        · exact ⟨Nat.lt_succ_of_lt (Nat.lt_succ_self _), .inr (Nat.le_refl _)⟩
      · rw [sz1]; exact Nat.le_succ _
      · rw [Heap.size_push, sz1]; exact Nat.le_succ_of_le (Nat.le_succ _)
    · rw [if_neg (by rw [decide_eq_false hz]; simp)]
      refine wpAny_bind (wpAny_pure (wpAny_bind (wpAny_setEpoch_of ho rfl e4 ?_)))
      show wpAny _ _ (newFields "set_iterator" _ >>= _) _ _ _
      refine wpAny_bind (wpAny_newObj_type (wpAny_pure ⟨_, rfl, "set_iterator", _, ⟨_, Heap.get?_push_size _ rfl, rfl⟩, FS.slot_sin.lookup, ?_⟩) (by show 5 ≤ _; decide))
      refine h s.heap.objs.size [s.heap.objs.size, a] _ ss _ _ s.drawn e2 (List.Perm.refl _) (fun b o e => Heap.get?_push_of_some _ e) (walk_setI (ep := ep) (es := es) (t := t) (Nat.ne_of_lt ha) e4 _ (fun i => if i = 0 then 0 else t.place.getD 0 0 + 1) ?_) ⟨Heap.get?_push_size _ rfl, Heap.get?_push_of_some _ ho⟩ (by simp) ?_ (Nat.le_refl _) (by rw [Heap.size_push]; exact Nat.le_succ _)
      · intro A' E' s' Q' i hi ho' hq
        refine wp_setNext1 ho' e4 hb (by omega) led ?_
        rw [List.length_map, Array.length_toList] at hi
        rcases Nat.lt_or_ge es.size 1 with z0 | z1
        · have e0 : es = #[] := Array.eq_empty_of_size_eq_zero (by omega)
          have p0 : t.place = #[] := Array.eq_empty_of_size_eq_zero (by omega)
          subst e0
          rw [p0] at hq ⊢
          rw [below_nil]
          simpa using hq
        · have z : es.size = 1 := by omega
          obtain ⟨x, e0⟩ : ∃ x, es = #[x] := by
            have := Array.size_eq_one_iff.mp z
            exact this
          obtain ⟨p, p0⟩ : ∃ p, t.place = #[p] := Array.size_eq_one_iff.mp (by omega)
          subst e0
          rw [p0] at hq ⊢
          obtain ⟨k, x⟩ := x
          by_cases i0 : i = 0
          · subst i0
            rw [if_pos rfl, below_lt (Nat.zero_le _)]
            simpa using hq
          · have i1 : i = 1 := by simp at hi; omega
            subst i1
            rw [if_neg (by decide)]
            show Q' (match (#[(k, x)] : Array (Int × Value))[SetTable.below #[p] (p + 1)]?, (#[p] : Array Nat)[SetTable.below #[p] (p + 1)]? with | some (_, x), some j => some (x, j + 1) | _, _ => none) s'
            rw [below_ge (Nat.lt_succ_self _)]
            simpa using hq
      · intro b hbm
        rw [Heap.size_push]
        simp at hbm
        rcases hbm with rfl | rfl
        · exact ⟨Nat.lt_succ_self _, .inr (Nat.le_refl _)⟩
        · exact ⟨Nat.lt_succ_of_lt ha, .inl rfl⟩
end
end L2
namespace L2
open PySem PySem.Spec PyProof.Rows
section
variable {X : Cx} {pins : List (Addr × Obj)} {σ : St} {H : Hp} {s : Shared} {h' : Heap}
theorem Inv.turnedT {t' : Nat} {d' : Drawn} {ch : List Addr} {a : Addr} {o : HO} (I : Inv X pins σ H s) (k : ∀ b u, b ∉ ch → s.heap.get? b = some u → h'.get? b = some u) (f : ∀ b ∈ ch, FpOk X pins H b) (hp : s.heap.objs.size ≤ a) (new : ObjOk X.prog X.w (upd H a o) h' a o) :
    Inv X pins σ (upd H a o) { s with heap := h', toks := t', drawn := d' } := by
  have nit : ∀ b u, H b = some u → b ∉ ch := fun b u e z => by rw [(f b z).1] at e; cases e
  have hn : H a = none := I.hok.fresh hp
  refine I.step (g' := s.gens) (d' := d') (ch := ch) (fun b hb => ?_) (fun b u _ _ hc e _ => k b u hc e) (fun b u _ _ hc e _ => ⟨u.slots, k b u hc e⟩) (fun b u _ e n => ?_) (fun b u hc e => ⟨u, k b u hc e⟩) (fun b xs q => by rw [upd_ne (ne_of_none q hn)]; exact q) (fun b u v q => by rw [upd_ne (ne_of_none q hn)]; exact q)
    (fun b ps q => ⟨#[], by rw [upd_ne (ne_of_none q hn), q]; simp⟩) (fun m hm => ?_) (fun b u e => ?_) I.bare
  · obtain ⟨_, f1, _, f3, f4, f5⟩ := f b hb
    exact ⟨f3, f1, f4, f5⟩
  · rw [upd_ne (Nat.ne_of_lt (Nat.lt_of_lt_of_le (Heap.lt_size e) hp))]; exact n
  · obtain ⟨ob, es, ep, ho, r⟩ := hm
    exact ⟨ob, es, ep, k _ ob (fun z => (f _ z).2.1 rfl) ho, r⟩
  · by_cases hb : b = a
    · subst hb; rw [upd_same] at e; cases e; exact new
    · rw [upd_ne hb] at e
      refine (I.hok b u e).stay (fun c v hc q => k c v ?_ q) (fun c q => by rw [upd_ne (ne_of_none q hn)]; exact q) fun c xs q => by rw [upd_ne (ne_of_none q hn)]; exact q
      rcases hc with z | z
      · rw [z]; exact nit b u e
      · exact nit c _ z
end
section
variable {P : Program} {w : World} {A : Around} {E : Value → Shared → Prop} {s : Shared} {a : Addr} {ss : List Str}
theorem collect_setT {Q : List Value → Shared → Prop} (hh : A.handled = none) (hS : StrSet P w s.heap a ss)
    (h : ∀ (vs : List Value) (ss1 : List Str) (h1 : Heap) (tk : Nat) (d : Drawn), StrsAre vs ss1 → ss1.Perm ss → (∀ b o, s.heap.get? b = some o → h1.get? b = some o) → s.heap.objs.size ≤ h1.objs.size → Q vs { s with heap := h1, toks := tk, drawn := d }) : wpAny (model P w) A (collect (.ref a)) Q E s := by
  unfold collect
  refine wpAny_bind (wpAny_runValue (codeAny_builtin PySem.F.entry_proto_collect ?_))
  rw [Around.under_plainId PySem.F.plain_proto_collect _]
  show wpAny _ A.in1 (newList [] >>= fun l => again (.builtin "list.__iadd__" ⟨[l, .ref a], []⟩)) _ _ _
  refine wpAny_bind (wpAny_newObj_type ?_)
  refine wpAny_pure ⟨plainId_quiet PySem.F.plain_list_iadd _, codeAny_builtin PySem.F.entry_list_iadd ?_⟩
  rw [Around.under_plainId PySem.F.plain_list_iadd _]
  have hS1 : StrSet P w (s.heap.push (seqObj "list" #[] 0)) a ss := hS.at fun o e => Heap.get?_push_of_some _ e
  have hL1 : (s.heap.push (seqObj "list" #[] 0)).get? s.heap.objs.size = some (seqObj "list" #[] 0) := Heap.get?_push_size _ rfl
  have hT : ∀ s' : Shared, StrSet P w s'.heap a ss → s'.TypeIs (.ref a) "set" := fun s' z => by
    obtain ⟨es, ep, t, ho, _⟩ := z
    exact ⟨_, ho, rfl⟩
  have ha : a < s.heap.objs.size := by
    obtain ⟨es, ep, t, ho, _⟩ := hS
    exact Heap.lt_size ho
  have hz : ss.length < scanBound := by
    obtain ⟨es, ep, t, _, _, e2, e3, _⟩ := hS
    rw [← e2.strs, List.length_map, List.length_map, Array.length_toList]
    exact e3
  have hne : Builtin.List.listSameRef (.ref s.heap.objs.size) (.ref a) = false := by
    show (s.heap.objs.size == a) = false
    exact beq_eq_false_iff_ne.mpr (Nat.ne_of_gt ha)
  show wpAny _ A.in1 (Builtin.List.listExtendWith (.ref s.heap.objs.size) (.ref a) (.ref s.heap.objs.size)) _ _ { s with heap := s.heap.push (seqObj "list" #[] 0) }
  unfold Builtin.List.listExtendWith
  refine wpAny_bind (wpAny_typeOf (hT _ hS1) ?_)
  rw [if_neg (by rw [hne]; decide)]
  refine wpAny_bind (iter_setT hS1 fun I fp vs ss1 St h1 d q1 q2 q3 W st hI hfp hge hsz => ?_)
  have hS2 : StrSet P w h1 a ss := hS1.at fun o e => q3 _ _ e
  have hL2 : h1.get? s.heap.objs.size = some (seqObj "list" #[] 0) := q3 _ _ hL1
  refine wpAny_bind (wpAny_holding ?_)
  unfold Builtin.List.listLengthHint
  refine wpAny_bind (wpAny_specialOf (hT { s with heap := h1, drawn := d } hS2) PySem.F.slot_set_len.lookup ?_)
  dsimp only
  rw [show splitId "set.__len__" = some ("set", "__len__") from by decide +kernel]
  dsimp only
  refine wpAny_bind (wpAny_isInstance (b := true) (hT { s with heap := h1, drawn := d } hS2) sub_set_self ?_)
  rw [if_neg (by decide), if_pos (by decide +kernel)]
  refine wpAny_bind (wpAny_typeOf (hT { s with heap := h1, drawn := d } hS2) (wpAny_pure ?_))
  rw [if_pos (by decide +kernel)]
  refine wpAny_bind (wpAny_rule ?_)
  unfold Builtin.List.listTouch
  have hL3 := get?_update_seq hL2 (·.push .none)
  have hL4 := get?_update_seq hL3 (·.pop)
  refine wpAny_bind (wpAny_bind (listUpdate_at (s := { s with heap := h1, drawn := d }) hL2 rfl (listUpdate_at (s := { s with heap := h1.update s.heap.objs.size (Obj.mapSeq (·.push .none)), drawn := d }) hL3 rfl ?_)))
  have nS : s.heap.objs.size ∉ fp := fun z => by
    rcases (hfp _ z).2 with e | e
    · exact absurd e (Nat.ne_of_gt ha)
    · rw [size_push'] at e
      exact absurd e (Nat.not_succ_le_self _)
  have upd2 : ∀ b o, b ≠ s.heap.objs.size → h1.get? b = some o → ((h1.update s.heap.objs.size (Obj.mapSeq (·.push .none))).update s.heap.objs.size (Obj.mapSeq (·.pop))).get? b = some o := fun b o hb e => by
    rw [Heap.get?_update_ne _ _ _ _ hb, Heap.get?_update_ne _ _ _ _ hb]; exact e
  have hv : vs.length ≤ sizeLine := by
    have e1 := q2.length_eq
    have e2 : vs.length = ss1.length := by rw [← q1.strs, List.length_map]
    rw [e2, e1]
    exact fits_of_scanBound hz
  have st3 := (W A.in1.in1.in1 (by exact hh)).frame 0 _ ((h1.update s.heap.objs.size (Obj.mapSeq (·.push .none))).update s.heap.objs.size (Obj.mapSeq (·.pop))) st fun b hb o e => upd2 b o (fun z => nS (z ▸ hb)) e
  refine wpAny_pure ⟨plainId_quiet PySem.F.plain_extend_loop _, codeAny_extend_loopS ((W _ (by exact hh)).toS) hv _ nS _ vs.length 0 _ _ _ rfl (Nat.zero_le _) st3 hL4 (ItemsOf.nil _) fun s' acc' c' hm hS' hacc => ?_⟩
  show wpAny _ A (load s.heap.objs.size >>= _) _ _ s'
  refine wpAny_bind (wpAny_load hS' ?_)
  have eacc : acc'.toList = vs := by
    refine List.ext_getElem? fun i => ?_
    by_cases hi : i < vs.length
    · have hi' : i < acc'.size := by rw [hacc.1]; exact hi
      rw [Array.getElem?_toList, Array.getElem?_eq_getElem hi']
      exact (hacc.2 i _ (Array.getElem?_eq_getElem hi')).symm
    · rw [Array.getElem?_toList, Array.getElem?_eq_none (by rw [hacc.1]; omega), List.getElem?_eq_none (by omega)]
  show wpAny _ A (pure acc'.toList) _ _ s'
  rw [eacc]
  obtain ⟨h5, g5, d5, tk5, os5⟩ := s'
  cases (show g5 = s.gens from hm.gens)
  cases (show d5 = d from hm.drawn)
  cases (show os5 = s.os from hm.os)
  have keep : ∀ b o, h1.get? b = some o → b ≠ s.heap.objs.size → b ≠ I → h5.get? b = some o := fun b o e n1 n2 => hm.heap b o (by simp only [List.mem_cons, List.not_mem_nil, or_false, not_or]; exact ⟨n1, n2⟩) (upd2 b o n1 e)
  refine wpAny_pure (h vs ss1 h5 tk5 d q1 q2 (fun b o e => ?_) ?_)
  · have lt := Heap.lt_size e
    refine keep b o (q3 b o (Heap.get?_push_of_some _ e)) (Nat.ne_of_lt lt) (Nat.ne_of_lt (Nat.lt_of_lt_of_le lt ?_))
    rw [size_push'] at hge
    exact Nat.le_of_succ_le hge
  · exact Nat.le_of_lt (Heap.lt_size hS')
end
def SetS (P : Program) (w : World) (a : Addr) (ss : List Str) : HO := .ext fun h => StrSet P w h a ss
section
variable {X : Cx}
theorem call_setS (hc : X.calm = true) : CallR X (.type "set") (fun xs H Q => ∃ (p : Addr) (ss0 : List Str), xs = [.ref p] ∧ SqL X.K H p (ss0.map V.str) ∧ ss0.length < 1000 ∧ ∀ (r : Addr) (ss : List Str), H r = none → ss.Nodup → ss.length ≤ ss0.length → (∀ x, x ∈ ss ↔ x ∈ ss0) → Q (.ref r) (upd H r (SetS X.prog X.w r ss))) := by
  intro pins s σ H xs us Q I r h
  obtain ⟨p, ss0, rfl, hq, hl, q⟩ := h
  obtain ⟨u, rfl, rx⟩ := vals1 r
  cases rx
  obtain ⟨its, rv, pl, hz⟩ := I.list hq
  have hlen := rv.length
  rw [List.length_map] at hlen
  refine call_setT (I.ok.hd hc) pl.isList (by simpa using strsAre_of rv) (by have : scanBound = 4096 := rfl; simp; omega) fun h' tk ss hS hO hk => ?_
  obtain ⟨o1, o2, o3⟩ := hO
  rw [List.size_toArray, ← hlen] at o2 o3
  refine ⟨.ref s.heap.objs.size, _, I.laid (t' := tk) (a := s.heap.objs.size) (o := SetS X.prog X.w s.heap.objs.size ss) (fun b o e => hk b o (Heap.lt_size e) e) (Nat.le_refl _) ⟨hS, ?_, fun h1 h2 z k => z.at k⟩, rfl, q _ ss (I.hok.fresh (Nat.le_refl _)) o1 o2 fun x => ?_⟩
  · obtain ⟨es, ep, t, ho, _⟩ := hS
    exact ⟨_, ho⟩
  · rw [o3 x, List.mem_iff_getElem?]
    constructor
    · rintro ⟨j, hj, rfl⟩
      exact ⟨j, by show ss0[j]? = some (ss0.getD j default); rw [List.getD_eq_getElem?_getD, List.getElem?_eq_getElem hj]; rfl⟩
    · rintro ⟨j, hj⟩
      exact ⟨j, (List.getElem?_eq_some_iff.mp hj).1, by show ss0.getD j default = x; rw [List.getD_eq_getElem?_getD, hj]; rfl⟩
theorem call_sortedSet (hc : X.calm = true) : CallR X (.builtin "sorted") (fun xs H Q => ∃ (p : Addr) (ss : List Str), xs = [.ref p] ∧ H p = some (SetS X.prog X.w p ss) ∧ ss.length < 64 ∧ ∀ (r : Addr) (ss' : List Str), H r = none → ss'.Perm ss → sortedS ss' = true → Q (.ref r) (upd H r (.lst (ss'.map V.str)))) := by
  intro pins s σ H xs us Q I r h
  obtain ⟨p, ss, rfl, hp, h64, q⟩ := h
  obtain ⟨u, rfl, rx⟩ := vals1 r
  cases rx
  have hS : StrSet X.prog X.w s.heap p ss := (I.hok p _ hp).1
  refine Calls.call_function_entry kind_sorted plain_sorted entry_sorted (args_sorted1 _) ?_
  unfold Builtin.«sorted»
  refine wpAny_bind (m := checkCount "sorted" 1 1 _) (wpAny_pure (wpAny_bind (collect_setT (I.ok.hd hc) hS fun vs ss1 h1 tk d a1 a2 a3 a4 => ?_)))
  have hvl : vs.length = ss1.length := by rw [← a1.strs, List.length_map]
  have hl64 : vs.length < 64 := by rw [hvl, a2.length_eq]; exact h64
  refine wpAny_bind (wpAny_newList ?_ (by have : sizeLine > 64 := by decide
                                          omega))
  have hoL : (h1.push (seqObj "list" vs.toArray 0)).get? h1.objs.size = some (seqObj "list" vs.toArray 0) := Heap.get?_push_size _ rfl
  refine wpAny_bind (wpAny_holding (wpAny_call_entry slot_list_sort ⟨_, hoL, rfl⟩ entry_list_sort (list_sort_treeK strKind_oneLt hoL a1.keysOf (fun v1 v2 rest e => keyKind_strs (by rw [← e]; exact a1)) hl64 fun st' b1 b2 => ⟨_, rfl, ?_⟩) (args_list_sort _)))
  obtain ⟨ss', c1, c2, c3⟩ := sorted_out_str a1 b1 b2
  refine wpAny_pure ⟨_, rfl, ?_⟩
  have nz : H h1.objs.size = none := I.hok.fresh a4
  obtain ⟨e, he⟩ := sortedHeap_at (out := (arrOf st').map (·.2)) hoL
  refine ⟨.ref h1.objs.size, _, I.turnedT (t' := tk) (d' := d) (ch := []) (a := h1.objs.size) (o := .lst (ss'.map V.str)) (fun b o _ eb => ?_) (fun b z => nomatch z) a4 ?_, rfl, q _ ss' nz (c2.trans a2) c3⟩
  · have e1 := a3 b o eb
    have lt := Heap.lt_size e1
    rw [sortedHeap_old (Nat.ne_of_lt lt) (by rw [size_push']; exact Nat.lt_succ_of_lt lt)]
    exact Heap.get?_push_of_some _ e1
  · refine ⟨?_, ((arrOf st').map (·.2)).toList, e, of_strsAre c1, he⟩
    rw [List.length_map, c2.length_eq, a2.length_eq]
    exact Nat.le_of_lt (small1000 (by omega))
end
end L2
namespace L2
open PySem PySem.Spec PyProof.Rows
section
variable {X : Cx} {pins : List (Addr × Obj)} {σ : St} {H : Hp} {s : Shared} {h' : Heap}
theorem Inv.turnedL {t' : Nat} {ch : List Addr} (I : Inv X pins σ H s) (k : ∀ b u, b ∉ ch → s.heap.get? b = some u → h'.get? b = some u) (f : ∀ b ∈ ch, FpOk X pins H b) : Inv X pins σ H { s with heap := h', toks := t' } := by
  have nit : ∀ b u, H b = some u → b ∉ ch := fun b u e z => by rw [(f b z).1] at e; cases e
  refine I.step (g' := s.gens) (d' := s.drawn) (ch := ch) (fun b hb => ?_) (fun b u _ _ hc e _ => k b u hc e) (fun b u _ _ hc e _ => ⟨u.slots, k b u hc e⟩) (fun b u _ e n => n) (fun b u hc e => ⟨u, k b u hc e⟩) (fun b xs q => q) (fun b u v q => q) (fun b ps q => ⟨#[], by rw [q]; simp⟩) (fun m hm => ?_) (fun b u e => ?_) I.bare
  · obtain ⟨_, f1, _, f3, f4, f5⟩ := f b hb
    exact ⟨f3, f1, f4, f5⟩
  · obtain ⟨ob, es, ep, ho, r⟩ := hm
    exact ⟨ob, es, ep, k _ ob (fun z => (f _ z).2.1 rfl) ho, r⟩
  · refine (I.hok b u e).stay (fun c v hc q => k c v ?_ q) (fun c q => q) fun c xs q => q
    rcases hc with z | z
    · rw [z]; exact nit b u e
    · exact nit c _ z
end
def Itp (n : Nat) (Ls : Hp → Prop) (xv : Nat → List V) : It := ⟨fun i H => Ls H ∧ i < n, fun i H x H' => ∃ T, H T = none ∧ H' = upd H T (.tup (xv i)) ∧ x = .ref T, fun i H => Ls H ∧ i = n⟩
theorem turn_walkT {P : Program} {w : World} {K : PySem.W.Frag} {elts : List Expr} {ct : Nat} {pos : Pos} (it : Addr) (fp fpW wr : List Addr) (n : Nat) (Ls : Hp → Prop) (xv : Nat → List V) (tn : Nat → Heap → Prop)
    (hit : it ∈ fp) (hwr : ∀ b ∈ wr, b ∈ fp) (hobj : ∀ i h, tn i h → ∀ b ∈ fp, ∃ o, h.get? b = some o ∧ ∀ v, o.data ≠ .cell v) (hkeep : ∀ i h h', tn i h → (∀ b ∈ fp, ∀ o, h.get? b = some o → h'.get? b = some o) → tn i h')
    (hx : ∀ i, (xv i).length ≤ sizeLine)
    (W : ∀ (X : Cx), X.prog = P → X.w = w → X.K = K → X.calm = true → ∀ (pins : List (Addr × Obj)) (s : Shared) (σ : L2.St) (H : Hp), Inv X pins σ H s → Ls H → ∃ (Pt : Nat → Array Value → Prop) (St : Nat → Heap → Prop) (Mid : Nat → Addr → Heap → Prop), WalksT P w X.A it fpW wr n Pt St Mid ∧ (∀ i, tn i s.heap → St i s.heap) ∧ (∀ i h, St i h → tn i h) ∧
      (∀ i vals, Pt i vals → Vals (xv i) vals.toList))
    (hself : ∀ (A : Around) (i : Nat) (s : Shared) (Q : Value → Shared → Prop) (E : Value → Shared → Prop), tn i s.heap → Q (.ref it) s → wpAny (model P w) A (pyIter (.ref it)) Q E s) : Turn P w K (.Tuple elts ct pos) (Itp n Ls xv) fp it tn where
  mem := hit
  obj := hobj
  keep := hkeep
  item := by
    intro X hP hw hK hc i pins s σ H E I hf st hg
    obtain ⟨hL, hi⟩ := hg
    obtain ⟨Pt, St, Mid, Wt, w1, w2, w3⟩ := W X hP hw hK hc pins s σ H I hL
    subst hP hw hK
    refine Wt.item i s _ _ hi (w1 i st) fun T vals h1 tk pv hT ht mid k1 => ?_
    have hTw : T ∉ wr := Wt.apart i T h1 mid
    refine ⟨_, rfl, Wt.go elts ct pos i T _ _ _ mid fun h2 st2 k2 => ?_⟩
    have ht2 : IsTup h2 T (vals.toList).toArray := by
      obtain ⟨o, a1, a2, nn, a3⟩ := ht
      exact ⟨o, k2 _ _ hTw a1, a2, nn, by simpa using a3⟩
    refine ⟨.ref T, upd H T (.tup (xv i)), I.turnedT (t' := tk) (d' := s.drawn) (ch := wr) (fun b u hb e => k2 b u hb (k1 b u hb e)) (fun b hb => hf b (hwr b hb)) hT ⟨hx i, vals.toList, w3 i vals pv, ht2⟩, rfl, ⟨T, I.hok.fresh hT, rfl, rfl⟩, w2 _ _ st2, fun b hb => ?_⟩
    have e : b ≠ T := by
      obtain ⟨o, ho, _⟩ := hobj i _ st b hb
      exact Nat.ne_of_lt (Nat.lt_of_lt_of_le (Heap.lt_size ho) hT)
    rw [upd_ne e]
    exact (hf b hb).1
  done := by
    intro X hP hw hK hc i pins s σ H E I hf st hg
    obtain ⟨hL, hi⟩ := hg
    obtain ⟨Pt, St, Mid, Wt, w1, w2, w3⟩ := W X hP hw hK hc pins s σ H I hL
    subst hP hw hK hi
    exact Wt.done s _ _ (w1 _ st) fun h1 tk k1 => ⟨rfl, I.turnedL (ch := wr) (fun b u hb e => k1 b u hb e) fun b hb => hf b (hwr b hb)⟩
  self := hself
theorem zip_apart (n a b : Nat) (h1 : a < n) (h2 : b < n) : ZipApart (n + 4) (n + 2) (n + 3) n (n + 1) a b := by
  constructor <;> (show @Ne Nat _ _; omega)
section
variable {X : Cx}
def iZip (K : PySem.W.Frag) (ta : TA) : TI := fun σ H R => ta σ H fun vs H1 => ∃ (a b : Addr) (xs ys : List V), vs = [.ref a, .ref b] ∧ SqL K H1 a xs ∧ SqL K H1 b ys ∧ R (Itp (min xs.length ys.length) (fun H => SqL K H a xs ∧ SqL K H b ys) (fun i => [xs.getD i .non, ys.getD i .non])) H1
theorem boot_zip : bootBuiltins "zip" = some (.type "zip") := by decide +kernel
theorem pi_zip {a b : Expr} {ta : TA} {p pos tpos : Pos} {elts : List Expr} {ct : Nat} (hg : Gl X "zip") (hm : X.mg "zip" = none) (ha : PA X [a, b] ta) (hs : starEach [a, b] X.env = [(false, eval a X.env), (false, eval b X.env)] := by rfl) (hs2 : starEach [b] X.env = [(false, eval b X.env)] := by rfl) :
    PI X (.Tuple elts ct tpos) (.Call (.Name "zip" p) [a, b] [] pos) (iZip X.K ta) := by
  intro pins s σ H R I h
  refine Call_ (ld_blt I hg hm boot_zip (PyProof.Rows.callWith_type1 (thn (ha pos pins s σ H _ I h) fun us s1 ⟨vs, H1, I1, r1, q1⟩ => ?_) (by rw [hs, hs2]) (by rw [hs2]; rfl)))
  obtain ⟨l1, l2, xs, ys, e, hx, hy, q⟩ := q1
  subst e
  obtain ⟨u1, u2, rfl, r1, r2⟩ := vals2 r1
  cases r1
  cases r2
  obtain ⟨it1, rv1, pl1, hz1⟩ := I1.list hx
  obtain ⟨it2, rv2, pl2, hz2⟩ := I1.list hy
  have n1 := rv1.length
  have n2 := rv2.length
  have b1 : l1 < s1.heap.objs.size := by obtain ⟨o, n, e, _⟩ := pl1; exact Heap.lt_size e
  have b2 : l2 < s1.heap.objs.size := by obtain ⟨o, n, e, _⟩ := pl2; exact Heap.lt_size e
  refine call_zip_2 pl1.isList pl2.isList fun h1 z1 z2 z3 z4 z5 z6 z7 => ?_
  refine wpAny_pyIter_zip z1 ?_
  have D := zip_apart s1.heap.objs.size l1 l2 b1 b2
  have hfp : ∀ b ∈ [s1.heap.objs.size + 4, s1.heap.objs.size + 2, s1.heap.objs.size + 3, s1.heap.objs.size, s1.heap.objs.size + 1], s1.heap.objs.size ≤ b := fun b hb => by
    simp only [List.mem_cons, List.not_mem_nil, or_false] at hb
    rcases hb with rfl | rfl | rfl | rfl | rfl
    · exact Nat.le_add_right _ _
    · exact Nat.le_add_right _ _
    · exact Nat.le_add_right _ _
    · exact Nat.le_refl _
    · exact Nat.le_add_right _ _
  refine ⟨s1.heap.objs.size + 4, [s1.heap.objs.size + 4, s1.heap.objs.size + 2, s1.heap.objs.size + 3, s1.heap.objs.size, s1.heap.objs.size + 1],
    fun i h => IsZip h (s1.heap.objs.size + 4) (s1.heap.objs.size + 2) (s1.heap.objs.size + 3) .none ∧ IsPair h (s1.heap.objs.size + 2) (.ref s1.heap.objs.size) (.ref (s1.heap.objs.size + 1)) ∧ (∃ a b, IsPair h (s1.heap.objs.size + 3) a b) ∧ h.IsListIter s1.heap.objs.size l1 i ∧ h.IsListIter (s1.heap.objs.size + 1) l2 i,
    _, H1, rfl, I1.kept (t' := s1.toks) z7,
    turn_walkT (s1.heap.objs.size + 4) _ [s1.heap.objs.size + 4, s1.heap.objs.size + 2, s1.heap.objs.size + 3, s1.heap.objs.size, s1.heap.objs.size + 1, l1, l2] [s1.heap.objs.size + 4, s1.heap.objs.size + 3, s1.heap.objs.size, s1.heap.objs.size + 1] _ _ _ _ (by simp) (fun b hb => ?_) (fun i h st b hb => ?_) (fun i h h' st k => ?_) (fun i => by show 2 ≤ sizeLine; decide) ?_ (fun A i s' Q E st hQ => wpAny_pyIter_zip st.1 hQ),
    ⟨z1, z2, ⟨_, _, z3⟩, z4, z5⟩, fun b hb => I1.fpOk (hfp b hb) (I1.hok.fresh (hfp b hb)), q⟩
  · simp only [List.mem_cons, List.not_mem_nil, or_false] at hb ⊢
    rcases hb with h | h | h | h
    · exact .inl h
    · exact .inr (.inr (.inl h))
    · exact .inr (.inr (.inr (.inl h)))
    · exact .inr (.inr (.inr (.inr h)))
  · obtain ⟨a1, a2, ⟨c, d, a3⟩, ⟨o4, a4, c4, d4⟩, ⟨o5, a5, c5, d5⟩⟩ := st
    simp only [List.mem_cons, List.not_mem_nil, or_false] at hb
    rcases hb with rfl | rfl | rfl | rfl | rfl
    · exact ⟨_, a1, fun v z => by cases z⟩
    · exact ⟨_, a2, fun v z => by cases z⟩
    · exact ⟨_, a3, fun v z => by cases z⟩
    · exact ⟨_, a4, fun v z => by rw [d4] at z; cases z⟩
    · exact ⟨_, a5, fun v z => by rw [d5] at z; cases z⟩
  · obtain ⟨a1, a2, ⟨c, d, a3⟩, a4, a5⟩ := st
    exact ⟨k _ (by simp) _ a1, k _ (by simp) _ a2, ⟨c, d, k _ (by simp) _ a3⟩, a4.at fun o e => k _ (by simp) o e, a5.at fun o e => k _ (by simp) o e⟩
  · intro X' hP hw hK hc pins' s' σ' H' I' hL
    obtain ⟨hx', hy'⟩ := hL
    rw [← hK] at hx' hy'
    obtain ⟨jt1, sv1, ql1, _⟩ := I'.list hx'
    obtain ⟨jt2, sv2, ql2, _⟩ := I'.list hy'
    have m1 := sv1.length
    have m2 := sv2.length
    have Wz := WalksT.zip2 (prog := X.prog) (w := X.w) (I'.ok.hd hc) _ _ _ _ _ l1 l2 D jt1.toArray jt2.toArray
    rw [show min jt1.toArray.size jt2.toArray.size = min xs.length ys.length by show min jt1.length jt2.length = _; rw [m1, m2]] at Wz
    refine ⟨_, _, _, Wz, fun i st => ?_, fun i h st => ?_, fun i vals pv => ?_⟩
    · obtain ⟨a1, a2, a3, a4, a5⟩ := st
      exact ⟨a1, a2, a3, a4, a5, ql1.isList, ql2.isList⟩
    · obtain ⟨a1, a2, a3, a4, a5, _⟩ := st
      exact ⟨a1, a2, a3, a4, a5⟩
    · obtain ⟨x, y, e1, e2, rfl⟩ := pv
      have e1 : jt1[i]? = some x := by simpa using e1
      have e2 : jt2[i]? = some y := by simpa using e2
      have c1 : i < xs.length := by rw [m1]; exact (List.getElem?_eq_some_iff.mp e1).1
      have c2 : i < ys.length := by rw [m2]; exact (List.getElem?_eq_some_iff.mp e2).1
      obtain ⟨u, d1, d2⟩ := sv1.get (List.getElem?_eq_getElem c1)
      obtain ⟨v, f1, f2⟩ := sv2.get (List.getElem?_eq_getElem c2)
      rw [e1] at d1
      rw [e2] at f1
      cases d1
      cases f1
      show Vals [xs.getD i .non, ys.getD i .non] [x, y]
      rw [List.getD_eq_getElem?_getD, List.getElem?_eq_getElem c1, List.getD_eq_getElem?_getD, List.getElem?_eq_getElem c2]
      exact .cons d2 (.cons f2 .nil)
end
section
variable {σ0 : St} {g : TG} {tt : TT} {te : TE} {Q : List V → Hp → Prop} {H1 : Hp}
theorem turns_tup {n : Nat} {Ls : Hp → Prop} {xv : Nat → List V} (Pv : Nat → List V → Hp → Prop) (h0 : Pv 0 [] H1) (hl : ∀ i ys H, i ≤ n → Pv i ys H → Ls H)
    (hs : ∀ i ys H T, i < n → Pv i ys H → H T = none → g (.ref T) σ0 (upd H T (.tup (xv i))) fun σ2 H2 => Sle σ0 σ2 ∧ tt σ2 H2 fun b H3 => if b = true then te σ2 H3 (fun v H4 => ys.length < sizeLine ∧ Nxt n i Pv (ys ++ [v]) H4) else Nxt n i Pv ys H3)
    (hd : ∀ ys H, Pv n ys H → Q ys H) : cTurns (Itp n Ls xv) σ0 g tt te Q H1 := by
  refine ⟨fun i m ys H => m = n - i ∧ i ≤ n ∧ Pv i ys H, ⟨n, by simp, Nat.zero_le _, h0⟩, ?_⟩
  rintro i m ys H ⟨rfl, hi, p⟩
  have q := hl i ys H hi p
  by_cases hlt : i < n
  · refine .inr ⟨⟨q, hlt⟩, fun x H' y => ?_⟩
    obtain ⟨T, e1, e2, e3⟩ := y
    subst e2 e3
    exact hs i ys H T hlt p e1
  · have e : i = n := by omega
    subst e
    exact .inl ⟨⟨q, rfl⟩, hd ys H p⟩
end
end L2
namespace L2
open PySem PySem.Spec PyProof.Rows
section
variable {X : Cx} {pins : List (Addr × Obj)} {σ : St} {H H' : Hp} {s : Shared}
theorem inv_compO {o0 : Obj} {N' : List Str} {scope : Scope} {sub : List (Option Nat)} {fp : List Addr} (I : Inv X pins σ H s) (O : CmpOk X.N X.env.scope N' scope sub) (hf : ∀ b ∈ fp, FpOk X pins H b)
    (hfl : ∀ b ∈ fp, b < s.heap.objs.size) (nf : o0.isFreed = false) (nc : ∀ v, o0.data ≠ .cell v) :
    Inv (cmpOf X scope N' (s.heap.objs.size + 1) s H fp) [(s.heap.objs.size, o0)] (subσ sub σ) H
      { s with heap := pushCells ((s.heap.push o0).push { cls := .type "dict", data := .dict #[] }) scope.names } := by
  have hk3 : ∀ b o, s.heap.get? b = some o → (s.heap.push o0).get? b = some o := fun b o e => Heap.get?_push_of_some _ e
  have sz3 : (s.heap.push o0).objs.size = s.heap.objs.size + 1 := Heap.size_push ..
  have hk : ∀ b o, s.heap.get? b = some o → (pushCells ((s.heap.push o0).push { cls := .type "dict", data := .dict #[] }) scope.names).get? b = some o :=
    fun b o e => pushCells_keeps _ _ b o (Heap.get?_push_of_some _ (hk3 b o e))
  have cf := cells_facts (h3 := s.heap.push o0) I O hk3
  rw [sz3] at cf
  have hC : H (s.heap.objs.size + 1) = none := I.hok.fresh (Nat.le_succ _)
  have nsC : (pushCells ((s.heap.push o0).push { cls := .type "dict", data := .dict #[] }) scope.names).Ns (s.heap.objs.size + 1) (fun _ => none) := by
    rw [← sz3]
    exact (Heap.Ns.new _ _).keeps (pushCells_keeps _ _)
  have has : ∀ x, (scope.names.lookup x = some .cell ∨ scope.names.lookup x = some .free) → ∃ c, (cellsFrom (s.heap.objs.size + 1 + 1) scope.names (closL X.env.cells scope.names [])).lookup x = some c := fun x hx => by
    refine Option.isSome_iff_exists.mp (PySem.W.cellsFrom_some _ _ _ ?_)
    rcases hx with z | z
    · exact .inl z
    · exact .inr (closL_some (.inl (PySem.mem_of_lookup z)))
  have kindB : ∀ x, (cenvOf X.env scope (s.heap.objs.size + 1)).kindOf x = (scope.names.lookup x).map fun k => if (k == NameKind.free && X.env.scope.kind == .function && X.env.scope.names.lookup x == some .cell) then NameKind.cell else k := fun x => lookup_relab
  have cellOk : ∀ x c, (cenvOf X.env scope (s.heap.objs.size + 1)).cells.lookup x = some c → ∃ v, (pushCells ((s.heap.push o0).push { cls := .type "dict", data := .dict #[] }) scope.names).IsCell c v := fun x c h => by
    rcases cf.1 x c h with q | q
    · exact ⟨_, q.1⟩
    · obtain ⟨v, z⟩ := I.cell x c q.2
      exact ⟨v, z.keeps hk⟩
  refine ⟨⟨I.ok.mod, O.kind, I.ok.glob, I.ok.blt, Nat.le_succ _, fun x y c h1 h2 => cf.2 x y c h1 h2, fun x hx => ?_, fun x c hx h => ?_, I.ok.hd, I.ok.frames, .inl rfl, fun b hb => ?_, fun b o e => I.bs b o e, Nat.le_trans I.ok.bsz I.sz, fun b o e hb => ?_, fun b hb => ?_, I.stack, I.stkFree⟩,
    rfl, I.bare, Un.kept hk, ⟨fun _ => none, nsC, fun i x v h1 h2 h3 => ?_⟩, cellOk, hC, fun x c h => ?_, fun p hp => ?_, I.hok.kept hk, ?_⟩
  · -- has
    refine has x ?_
    have hx : (cenvOf X.env scope (s.heap.objs.size + 1)).kindOf x = some .cell ∨ (cenvOf X.env scope (s.heap.objs.size + 1)).kindOf x = some .free := hx
    rw [kindB] at hx
    cases e : scope.names.lookup x with
    | none => rw [e] at hx; rcases hx with z | z <;> cases z
    | some k =>
      rw [e] at hx
      cases k with
      | cell => exact .inl rfl
      | free => exact .inr rfl
      | _ => exfalso; rcases hx with z | z <;> simp at z
  · -- cab
    rcases cf.1 x c h with q | q
    · have := q.2.1
      show s.heap.objs.size ≤ c
      omega
    · exfalso
      have e := lookup_mem_nd O.nd q.1
      have hx' : (!(scope.names.lookup x == some NameKind.free)) = true := hx
      rw [e] at hx'
      exact absurd hx' (by decide)
  · -- exf
    obtain ⟨f0, f1, f2, f3, f4, f5⟩ := hf b hb
    have lt := hfl b hb
    refine ⟨fun e => ?_, fun x c h e => ?_⟩
    · have e' : b = s.heap.objs.size + 1 := e
      rw [e'] at lt
      exact absurd lt (Nat.not_lt.mpr (Nat.le_succ _))
    · rcases cf.1 x c h with q | q
      · have z := q.2.1
        rw [e] at z
        exact absurd lt (Nat.not_lt.mpr (Nat.le_trans (Nat.le_trans (Nat.le_succ _) (Nat.le_succ _)) z))
      · exact f4 x c q.2 e
  · -- noex
    obtain ⟨f0, f1, f2, f3, f4, f5⟩ := hf b hb
    rcases f3 with z | z
    · exact I.ok.noex b o e z
    · exact absurd (Nat.lt_of_lt_of_le (Heap.lt_size (I.ok.bs b o e).1) z) (Nat.lt_irrefl _)
  · -- exfs
    obtain ⟨f0, f1, f2, f3, f4, f5⟩ := hf b hb
    exact fun z => f2 (frs_sub_of I z f1)
  · -- loc
    have h1' : N'[i]? = some x := h1
    have hsub : ∃ k, sub[i]? = some (some k) ∧ (σ[k]?).join = some v := by
      unfold subσ at h2
      rw [List.getElem?_map] at h2
      cases e : sub[i]? with
      | none => rw [e] at h2; cases h2
      | some o =>
        rw [e] at h2
        cases o with
        | none => cases h2
        | some k => exact ⟨k, rfl, by simpa using h2⟩
    obtain ⟨k, hk1, hk2⟩ := hsub
    obtain ⟨nk, fx⟩ := O.sub i k x hk1 h1'
    have sk : σ[k]? = some (some v) := by
      cases e : σ[k]? with
      | none => rw [e] at hk2; cases hk2
      | some o => rw [e] at hk2; cases o with
        | none => cases hk2
        | some y => cases hk2; rfl
    have cx := O.free _ (PySem.mem_of_lookup fx) rfl
    obtain ⟨m, hn, hl⟩ := I.loc
    obtain ⟨u, ru, lk⟩ := hl k x v nk sk (by
      rcases cx with z | z
      · exact .inr (.inl z)
      · exact .inr (.inr z))
    refine ⟨u, ru, .inr ⟨?_, ?_⟩⟩
    · show (cenvOf X.env scope (s.heap.objs.size + 1)).kindOf x = some .cell ∨ (cenvOf X.env scope (s.heap.objs.size + 1)).kindOf x = some .free
      rw [kindB, fx]
      by_cases hc : (NameKind.free == NameKind.free && X.env.scope.kind == .function && X.env.scope.names.lookup x == some .cell) = true
      · exact .inl (by rw [Option.map_some, if_pos hc])
      · exact .inr (by rw [Option.map_some, if_neg hc])
    · rcases lk with ⟨kl, _⟩ | ⟨_, c, hc, hcell⟩
      · exfalso
        have kl' : X.env.scope.names.lookup x = some .local := kl
        rcases cx with z | z <;> rw [kl'] at z <;> cases z
      · obtain ⟨c', hc'⟩ := has x (.inr fx)
        refine ⟨c', hc', ?_⟩
        rcases cf.1 x c' hc' with q | q
        · exfalso
          have e := lookup_mem_nd O.nd q.2.2
          rw [fx] at e; cases e
        · rw [hc] at q
          have e : c = c' := Option.some.inj q.2
          subst e
          exact hcell.keeps hk
  · -- freeC
    rcases cf.1 x c h with q | q
    · exact I.hok.fresh (by have := q.2.1; omega)
    · exact I.freeC x c q.2
  · -- pin
    have hp' : p = (s.heap.objs.size, o0) := by
      have : p ∈ ([] ++ [(s.heap.objs.size, o0)] : List (Addr × Obj)) := hp
      simpa using this
    subst hp'
    refine ⟨pushCells_keeps _ _ _ _ (Heap.get?_push_of_some _ (Heap.get?_push_size _ nf)), I.hok.fresh (Nat.le_refl _), Nat.ne_of_lt (Nat.lt_succ_self _), fun z => ?_, fun v z => ?_⟩
    · rcases List.mem_cons.mp (I.stkSub _ z) with e | e
      · exact absurd I.lt (by rw [← e]; exact Nat.lt_irrefl _)
      · exact I.nofs (Nat.le_refl _) e
    · exact nc v z
  · -- len
    show (subσ sub σ).length = N'.length
    unfold subσ
    rw [List.length_map, O.len]
theorem Inv.repin {acc : Addr} {o o' : Obj} {h' : Heap} {t' : Nat} (I : Inv X ((acc, o) :: pins) σ H s) (k : ∀ b u, b ≠ acc → s.heap.get? b = some u → h'.get? b = some u) (e : h'.get? acc = some o') (nc : ∀ v, o'.data ≠ .cell v) (hx : acc ∈ X.ex ∨ X.s₀.heap.objs.size ≤ acc) (np : ∀ p ∈ X.pn ++ pins, p.1 ≠ acc) :
    Inv X ((acc, o') :: pins) σ H { s with heap := h', toks := t' } := by
  have pa := I.pin (acc, o) (List.mem_append_right _ List.mem_cons_self)
  have I1 : Inv X pins σ H s := I.pins_of fun p hp => I.pin p (List.mem_append_right _ (List.mem_cons_of_mem _ hp))
  have I2 : Inv X pins σ H { s with heap := h', toks := t' } := I1.turned (t' := t') (it := acc) k pa.2.1 pa.2.2.1 hx
    (fun y c hy z => by
      obtain ⟨w', o2, ho2, hd2⟩ := I.cell y c hy
      rw [z, pa.1] at ho2
      exact pa.2.2.2.2 _ (by cases ho2; exact hd2)) np
  refine I2.pins_of fun p hp => ?_
  rcases List.mem_cons.mp hp with z | z
  · subst z
    exact ⟨e, pa.2.1, pa.2.2.1, pa.2.2.2.1, nc⟩
  · exact I2.pin p (List.mem_append_right _ z)
end
def compShape (tpos : Pos) (it : Value) (target : Expr) (env : Env) (ifs : List Expr) (body : Sem Unit) (k : Sem Fin) : Sem Fin := do
  standAt tpos
  match ← pyNext it with
  | none => pure (.done .next)
  | some v =>
    letOwnedTupleGo target it v
    assign target env v
    let mut ok := true
    for c in ifs do
      if ok then ok ← isTrue c env (eval c env)
    if ok then
      body
    k
theorem compLoop_gen {prog : Program} {w : World} {A : Around} {R : Result → Shared → Prop} {s : Shared} {e target : Expr} {d : Nat} {tpos : Pos} {ifs : List Expr} {it acc : Value} {env : Env} {body : Sem Unit} (hsh : compTurn e d it acc env = compShape tpos it target env ifs body (again (.compLoop e d it acc env))) (hdn : ∀ (A : Around) (Q : PySem.Fin → Shared → Prop) (E : Value → Shared → Prop) (s : Shared), wpAny (model prog w) A ((compTurn e d it acc env).onRaise (fun x => do noteFrame x env; theTreesLotGoes x)) Q E s → wpAny (model prog w) (A.under (.compLoop e d it acc env)) ((model prog w).den (.compLoop e d it acc env)) Q E s) (I : Nat → Shared → Prop)
    (turn : ∀ n s, I n s → wpAny (model prog w) A (pyNext it) (fun r s₁ => match r with
      | none => R (.ok .next) s₁
      | some v => wpAny (model prog w) A (letOwnedTupleGo target it v) (fun _ s₁' => wpAny (model prog w) A (assign target env v) (fun _ s₂ =>
          wpAny (model prog w) A (forIn ifs true fun c r => if r = true then do let ok ← isTrue c env (eval c env); pure (ForInStep.yield ok) else pure (ForInStep.yield r)) (fun ok s₃ =>
            if ok = true then wpAny (model prog w) A body (fun _ s₅ => ∃ m, m < n ∧ I m s₅) (fun _ _ => False) s₃
            else ∃ m, m < n ∧ I m s₃) (fun _ _ => False) s₂) (fun _ _ => False) s₁') (fun _ _ => False) s₁) (fun _ _ => False) s)
    (n : Nat) (h : I n s) : codeAny (model prog w) A (.compLoop e d it acc env) R s := by
  refine codeAny_loop rfl I (fun n s hI => ?_) n h
  refine hdn _ _ _ _ (wpAny_noted ?_)
  rw [hsh]
  unfold compShape
  refine wpAny_bind (wpAny_standAt (wpAny_bind (wpAny_mono (turn n s hI) (fun r s₁ h₁ => ?_) fun _ _ h' => h'.elim)))
  cases r with
  | none => exact wpAny_pure h₁
  | some v =>
    refine wpAny_bind (wpAny_mono h₁ (fun _ s₁' h₁ => ?_) fun _ _ h' => h'.elim)
    refine wpAny_bind (wpAny_mono h₁ (fun _ s₂ h₂ => wpAny_bind (wpAny_mono h₂ (fun ok s₃ h₃ => ?_) fun _ _ h' => h'.elim)) fun _ _ h' => h'.elim)
    cases ok with
    | false => exact wpAny_pure ⟨rfl, h₃⟩
    | true => exact wpAny_bind (wpAny_mono h₃ (fun _ s₅ h₅ => wpAny_pure ⟨rfl, h₅⟩) fun _ _ h' => h'.elim)
section
variable {AS : Type}
abbrev TB (AS : Type) := AS → St → Hp → (AS → St → Hp → Prop) → Prop
def PBd (X : Cx) (AO : AS → Obj → Prop) (acc : Addr) (body : Sem Unit) (tb : TB AS) : Prop :=
  ∀ (pins : List (Addr × Obj)) (s : Shared) (σ : St) (H : Hp) (a : AS) (o : Obj) (Q : AS → St → Hp → Prop), Inv X ((acc, o) :: pins) σ H s → (∀ p ∈ X.pn ++ pins, p.1 ≠ acc) → (acc ∈ X.ex ∨ X.s₀.heap.objs.size ≤ acc) → AO a o → tb a σ H Q →
    wpAny (model X.prog X.w) X.A body (fun _ s' => ∃ (a' : AS) (o' : Obj) (σ' : St) (H' : Hp), Inv X ((acc, o') :: pins) σ' H' s' ∧ AO a' o' ∧ Q a' σ' H') (fun _ _ => False) s
def gTurns (J : It) (g : TG) (tt : TT) (tb : TB AS) (Q : AS → St → Hp → Prop) (a0 : AS) (σ0 : St) (H0 : Hp) : Prop :=
  ∃ W : Nat → Nat → AS → St → Hp → Prop, (∃ m, W 0 m a0 σ0 H0) ∧ ∀ i m a σ H, W i m a σ H →
    (J.stop i H ∧ Q a σ H) ∨
    (J.go i H ∧ ∀ x H', J.yld i H x H' → g x σ H' fun σ2 H2 => tt σ2 H2 fun b H3 =>
      if b = true then tb a σ2 H3 (fun a' σ' H' => ∃ m', m' < m ∧ W (i + 1) m' a' σ' H') else ∃ m', m' < m ∧ W (i + 1) m' a σ2 H3)
theorem gloop {X : Cx} {AO : AS → Obj → Prop} {e target : Expr} {d : Nat} {tpos : Pos} {ifs : List Expr} {J : It} {fp : List Addr} {it acc : Addr} {tn : Nat → Heap → Prop} {body : Sem Unit} {g : TG} {tt : TT} {tb : TB AS} {Q : AS → St → Hp → Prop} {R : Result → Shared → Prop}
    {pins : List (Addr × Obj)} {s : Shared} {σ : St} {H : Hp} {a : AS} {o : Obj}
    (hc : X.calm = true) (xxe : X.xe = fun _ _ => False) (hsh : compTurn e d (.ref it) (.ref acc) X.env = compShape tpos (.ref it) target X.env ifs body (again (.compLoop e d (.ref it) (.ref acc) X.env))) (hdn : ∀ (A : Around) (Q : PySem.Fin → Shared → Prop) (E : Value → Shared → Prop) (s : Shared), wpAny (model X.prog X.w) A ((compTurn e d (.ref it) (.ref acc) X.env).onRaise (fun x => do noteFrame x X.env; theTreesLotGoes x)) Q E s → wpAny (model X.prog X.w) (A.under (.compLoop e d (.ref it) (.ref acc) X.env)) ((model X.prog X.w).den (.compLoop e d (.ref it) (.ref acc) X.env)) Q E s)
    (T : Turn X.prog X.w X.K target J fp it tn) (st : tn 0 s.heap) (hf : ∀ b ∈ fp, FpOk X ((acc, o) :: pins) H b) (hg : PG X target g) (ht : PTs X ifs tt) (hb : PBd X AO acc body tb)
    (I : Inv X ((acc, o) :: pins) σ H s) (np : ∀ p ∈ X.pn ++ pins, p.1 ≠ acc) (hx : acc ∈ X.ex ∨ X.s₀.heap.objs.size ≤ acc) (ha : AO a o) (rd : gTurns J g tt tb Q a σ H)
    (hR : ∀ (s' : Shared) (a' : AS) (o' : Obj) (σ' : St) (H' : Hp), Inv X ((acc, o') :: pins) σ' H' s' → AO a' o' → Q a' σ' H' → (∀ b ∈ fp, H' b = none) → R (.ok .next) s') :
    codeAny (model X.prog X.w) X.A (.compLoop e d (.ref it) (.ref acc) X.env) R s := by
  obtain ⟨W, ⟨m0, w0⟩, turn⟩ := rd
  have stat : ∀ {o' : Obj} {H' : Hp}, (∀ b ∈ fp, H' b = none) → ∀ b ∈ fp, FpOk X ((acc, o') :: pins) H' b := fun {o' H'} hn b hb => by
    obtain ⟨f0, f1, f2, f3, f4, f5⟩ := hf b hb
    refine ⟨hn b hb, f1, f2, f3, f4, fun p hp => ?_⟩
    rcases List.mem_append.mp hp with z | z
    · exact f5 p (List.mem_append_left _ z)
    · rcases List.mem_cons.mp z with z | z
      · rw [z]; exact f5 (acc, o) (List.mem_append_right _ List.mem_cons_self)
      · exact f5 p (List.mem_append_right _ (List.mem_cons_of_mem _ z))
  refine compLoop_gen hsh hdn (fun n s' => ∃ (i : Nat) (a' : AS) (o' : Obj) (σ' : St) (H' : Hp), Inv X ((acc, o') :: pins) σ' H' s' ∧ AO a' o' ∧ tn i s'.heap ∧ (∀ b ∈ fp, H' b = none) ∧ W i n a' σ' H') ?_ m0 ⟨0, a, o, σ, H, I, ha, st, fun b hb => (hf b hb).1, w0⟩
  rintro n s4 ⟨i, a4, o4, σ4, H4, I4, ha4, st4, fr4, w4⟩
  rcases turn i n a4 σ4 H4 w4 with ⟨stop, q⟩ | ⟨go, step⟩
  · refine thn (T.done X rfl rfl rfl hc i _ s4 σ4 H4 (fun _ _ => False) I4 (stat fr4) st4 stop) fun r s5 ⟨hr, I5⟩ => ?_
    subst hr
    exact hR s5 a4 o4 σ4 H4 I5 ha4 q fr4
  · refine thn (T.item X rfl rfl rfl hc i _ s4 σ4 H4 (fun _ _ => False) I4 (stat fr4) st4 go) fun r s5 ⟨u, hr, h5⟩ => ?_
    subst hr
    refine thn h5 fun _ s6 ⟨x, H6, I6, r6, y6, st6, fr6⟩ => ?_
    have I6' := I6.pinned (stat fr6) (T.obj _ _ st6)
    have back : ∀ {o' : Obj} {σ' : St} {H' : Hp} {s' : Shared}, Inv X ((acc, o') :: (pins ++ pinsAt fp s6.heap)) σ' H' s' → Inv X ((acc, o') :: pins) σ' H' s' ∧ tn (i + 1) s'.heap ∧ ∀ b ∈ fp, H' b = none := fun {o' σ' H' s'} I' => by
      refine ⟨Inv.unpinned (pl := pinsAt fp s6.heap) I', T.keep _ _ _ st6 fun b hb o e => ?_, fun b hb => ?_⟩
      · exact (I'.pin (b, o) (List.mem_append_right _ (List.mem_cons_of_mem _ (List.mem_append_right _ (mem_pinsAt hb e))))).1
      · obtain ⟨o, e, d⟩ := T.obj _ _ st6 b hb
        exact (I'.pin (b, o) (List.mem_append_right _ (List.mem_cons_of_mem _ (List.mem_append_right _ (mem_pinsAt hb e))))).2.1
    have np' : ∀ p ∈ X.pn ++ (pins ++ pinsAt fp s6.heap), p.1 ≠ acc := fun p hp => by
      rcases List.mem_append.mp hp with z | z
      · exact np p (List.mem_append_left _ z)
      · rcases List.mem_append.mp z with z | z
        · exact np p (List.mem_append_right _ z)
        · obtain ⟨hb, _⟩ := of_pinsAt z
          exact Ne.symm ((stat (o' := o4) fr6 p.1 hb).2.2.2.2.2 (acc, o4) (List.mem_append_right _ List.mem_cons_self))
    have tg := hg _ s6 σ4 H6 x u _ I6' r6 (step x H6 y6)
    rw [xxe] at tg
    refine thn tg fun _ s7 ⟨σ7, H7, I7, q7⟩ => ?_
    have tts := ht _ s7 σ7 H7 _ I7 q7
    rw [xxe] at tts
    refine thn tts fun b s8 ⟨H8, I8, q8⟩ => ?_
    cases b with
    | false =>
      rw [if_neg Bool.false_ne_true] at q8 ⊢
      obtain ⟨m', hm', w8⟩ := q8
      obtain ⟨b1, b2, b3⟩ := back I8
      exact ⟨m', hm', i + 1, a4, o4, σ7, H8, b1, ha4, b2, b3, w8⟩
    | true =>
      rw [if_pos rfl] at q8 ⊢
      refine thn (hb _ s8 σ7 H8 a4 o4 _ I8 np' hx ha4 q8) fun _ s9 ⟨a9, o9, σ9, H9, I9, ha9, m', hm', w9⟩ => ?_
      obtain ⟨b1, b2, b3⟩ := back I9
      exact ⟨m', hm', i + 1, a9, o9, σ9, H9, b1, ha9, b2, b3, w9⟩
end
end L2
namespace L2
open PySem PySem.Spec PyProof.Rows
theorem compStart_gen {prog : Program} {w : World} {A : Around} {R : Result → Shared → Prop} {s : Shared} {e : Expr} {d : Nat} {g : Comprehension} {it acc : Value} {env : Env} (hcl : (clausesOf e)[d]? = some g) (hga : g.is_async = 0)
    (hdn : ∀ (A : Around) (Q : PySem.Fin → Shared → Prop) (E : Value → Shared → Prop) (s : Shared), wpAny (model prog w) A ((compStart e d it acc env).onRaise (fun x => do noteFrame x env; standAt theWindowsPlace)) Q E s → wpAny (model prog w) (A.under (.compStart e d it acc env)) ((model prog w).den (.compStart e d it acc env)) Q E s)
    (hq : ∀ it', (Code.compLoop e d it' acc env).quiet = true)
    (h0 : codeAny (model prog w) A (.compLoop e d it acc env) R s)
    (h : wpAny (model prog w) A (pyIter it) (fun it' s' => codeAny (model prog w) A (.compLoop e d it' acc env) R s') (fun _ _ => False) s) : codeAny (model prog w) A (.compStart e d it acc env) R s := by
  refine codeAny_of_tree (hdn _ _ _ _ (wpAny_notedAt ?_))
  unfold compStart
  rw [hcl]
  show wpAny _ _ (if (g.is_async != 0) = true then _ else _) _ _ s
  rw [if_neg (by rw [hga]; decide)]
  refine wpAny_bind (wpAny_askSetting (wpAny_ite ?_))
  split
  · first
      | exact wpAny_bind (wpAny_pure (wpAny_pure (And.intro (hq _) h0)))
      | exact wpAny_pure (And.intro (hq _) h0)
  · exact wpAny_bind (wpAny_rule (wpAny_bind (wpAny_standAt (wpAny_bind (wpAny_mono h (fun it' s' h' => wpAny_pure (And.intro (hq _) h')) fun _ _ x => x.elim)))))
section
variable {X : Cx} {pins : List (Addr × Obj)} {σ : St} {H : Hp} {s : Shared} {AS : Type}
theorem gcore {e target : Expr} {gcl : Comprehension} {tpos : Pos} {ifs : List Expr} {scope : Scope} {N' : List Str} {sub : List (Option Nat)} {J : It} {fp : List Addr} {it : Addr} {tn : Nat → Heap → Prop} {g : TG} {tt : TT} {tb : TB AS} {o0 : Obj} {a0 : AS} {AO : AS → Obj → Prop} {HOf : Addr → AS → HO} {newAcc : Sem Value} {body : Addr → Env → Sem Unit}
    {Qe : AS → Hp → Prop} {E : Value → Shared → Prop} {RR : Value → Addr → Result → Shared → Prop}
    (hnew : ∀ (A : Around) (s : Shared) (Q : Value → Shared → Prop) (E : Value → Shared → Prop), Q (.ref s.heap.objs.size) { s with heap := s.heap.push o0 } → wpAny (model X.prog X.w) A newAcc Q E s) (nf : o0.isFreed = false) (nc : ∀ a o, AO a o → ∀ v, o.data ≠ .cell v) (hA0 : AO a0 o0)
    (hHO : ∀ (H' : Hp) (h : Heap) (acc : Addr) (a : AS) (o : Obj), sysModules < acc → AO a o → h.get? acc = some o → ObjOk X.prog X.w H' h acc (HOf acc a))
    (hcl : (clausesOf e)[0]? = some gcl) (hga : gcl.is_async = 0)
    (hdnS : ∀ (it acc : Value) (env : Env) (A : Around) (Q : PySem.Fin → Shared → Prop) (E : Value → Shared → Prop) (s : Shared), wpAny (model X.prog X.w) A ((compStart e 0 it acc env).onRaise (fun x => do noteFrame x env; standAt theWindowsPlace)) Q E s → wpAny (model X.prog X.w) (A.under (.compStart e 0 it acc env)) ((model X.prog X.w).den (.compStart e 0 it acc env)) Q E s)
    (hdnL : ∀ (it acc : Value) (env : Env) (A : Around) (Q : PySem.Fin → Shared → Prop) (E : Value → Shared → Prop) (s : Shared), wpAny (model X.prog X.w) A ((compTurn e 0 it acc env).onRaise (fun x => do noteFrame x env; theTreesLotGoes x)) Q E s → wpAny (model X.prog X.w) (A.under (.compLoop e 0 it acc env)) ((model X.prog X.w).den (.compLoop e 0 it acc env)) Q E s)
    (hq : ∀ it acc env, (Code.compLoop e 0 it acc env).quiet = true)
    (hsh : ∀ (it acc : Addr) (env : Env), compTurn e 0 (.ref it) (.ref acc) env = compShape tpos (.ref it) target env ifs (body acc env) (again (.compLoop e 0 (.ref it) (.ref acc) env)))
    (hc : X.calm = true) (I : Inv X pins σ H s) (O : CmpOk X.N X.env.scope N' scope sub) (T : Turn X.prog X.w X.K target J fp it tn) (st : tn 0 s.heap) (hf : ∀ b ∈ fp, FpOk X pins H b)
    (B : ∀ C s H fp, PG (cmpOf X scope N' C s H fp) target g ∧ PTs (cmpOf X scope N' C s H fp) ifs tt ∧ ∀ acc, PBd (cmpOf X scope N' C s H fp) AO acc (body acc (cmpOf X scope N' C s H fp).env) tb)
    (rd : gTurns J g tt tb (fun a _ H' => Qe a H') a0 (subσ sub σ) H)
    (hRR : ∀ (acc C : Addr) (a : AS) (H' : Hp) (s' : Shared), Inv X pins σ (upd H' acc (HOf acc a)) s' → FpOk X pins (upd H' acc (HOf acc a)) C → (∃ m, s'.heap.Ns C m) → H' acc = none → Qe a H' → RR (.ref acc) C (.ok .next) s') :
    wpAny (model X.prog X.w) X.A newAcc (fun acc s₃ => wpAny (model X.prog X.w) X.A (newFunctionEnv scope X.env.globals (closL X.env.cells scope.names []) [] X.env.qual none .none (some X.env)) (fun cenv s₄ =>
      codeAny (model X.prog X.w) X.A (.compStart e 0 (.ref it) acc { cenv with scope := relabel scope X.env }) (RR acc cenv.locals) s₄) E s₃) E s := by
  refine hnew _ _ _ _ (wpAny_compEnv ?_)
  have hfl : ∀ b ∈ fp, b < s.heap.objs.size := fun b hb => by
    obtain ⟨o, e, _⟩ := T.obj _ _ st b hb
    exact Heap.lt_size e
  have I0 := inv_compO (o0 := o0) (sub := sub) I O hf hfl nf (nc a0 o0 hA0)
  have sz3 : (s.heap.push o0).objs.size = s.heap.objs.size + 1 := Heap.size_push ..
  dsimp only
  show codeAny _ _ (.compStart _ 0 (.ref it) (.ref s.heap.objs.size) { scope := relabel scope X.env, locals := (s.heap.push o0).objs.size, globals := X.env.globals, cells := cellsFrom ((s.heap.push o0).objs.size + 1) scope.names (closL X.env.cells scope.names []), qual := X.env.qual, func := none, code := X.env.code, frame := X.env.frame, builtins := X.env.builtins })
    (RR (.ref s.heap.objs.size) (s.heap.push o0).objs.size) { s with heap := pushCells ((s.heap.push o0).push { cls := .type "dict", data := .dict #[] }) scope.names }
  rw [sz3]
  show codeAny _ _ (.compStart _ 0 (.ref it) (.ref s.heap.objs.size) (cenvOf X.env scope (s.heap.objs.size + 1))) (RR (.ref s.heap.objs.size) (s.heap.objs.size + 1)) _
  generalize hs0 : ({ s with heap := pushCells ((s.heap.push o0).push { cls := .type "dict", data := .dict #[] }) scope.names } : Shared) = s0 at I0 ⊢
  have hk0 : ∀ b o, s.heap.get? b = some o → s0.heap.get? b = some o := fun b o e => by
    rw [← hs0]
    exact pushCells_keeps _ _ b o (Heap.get?_push_of_some _ (Heap.get?_push_of_some _ e))
  have st0 : tn 0 s0.heap := T.keep _ _ _ st fun b hb o e => hk0 b o e
  clear hs0 sz3
  generalize hX : cmpOf X scope N' (s.heap.objs.size + 1) s H fp = X' at I0
  have xp : X'.prog = X.prog := by rw [← hX]; rfl
  have xw : X'.w = X.w := by rw [← hX]; rfl
  have xK : X'.K = X.K := by rw [← hX]; rfl
  have xA : X'.A = X.A := by rw [← hX]; rfl
  have xc : X'.calm = true := by rw [← hX]; exact hc
  have xe : X'.env = cenvOf X.env scope (s.heap.objs.size + 1) := by rw [← hX]; rfl
  have xx : X'.ex = fp := by rw [← hX]; rfl
  have xf : X'.fs = frs X.stack := by rw [← hX]; rfl
  have xpn : X'.pn = [] := by rw [← hX]; rfl
  have x0 : X'.s₀ = s := by rw [← hX]; rfl
  have xh : X'.H₀ = H := by rw [← hX]; rfl
  have xxe : X'.xe = fun _ _ => False := by rw [← hX]; rfl
  obtain ⟨hg, ht, hbd⟩ := B (s.heap.objs.size + 1) s H fp
  rw [hX] at hg ht hbd
  clear hX
  have f0' : ∀ b ∈ fp, FpOk X' [(s.heap.objs.size, o0)] H b := fun b hb => by
    obtain ⟨f0, f1, f2, f3, f4, f5⟩ := hf b hb
    refine ⟨f0, (I0.ok.exf b (by rw [xx]; exact hb)).1, I0.ok.exfs b (by rw [xx]; exact hb), .inl (by rw [xx]; exact hb), (I0.ok.exf b (by rw [xx]; exact hb)).2, fun p hp' => ?_⟩
    rw [xpn, List.nil_append, List.mem_singleton] at hp'
    rw [hp']
    exact Nat.ne_of_gt (hfl b hb)
  have loop : codeAny (model X.prog X.w) X.A (.compLoop e 0 (.ref it) (.ref s.heap.objs.size) (cenvOf X.env scope (s.heap.objs.size + 1))) (RR (.ref s.heap.objs.size) (s.heap.objs.size + 1)) s0 := by
    have T' : Turn X'.prog X'.w X'.K target J fp it tn := by rw [xp, xw, xK]; exact T
    have hb0 := hbd s.heap.objs.size
    have key := gloop (X := X') (AO := AO) (e := e) (d := 0) (tpos := tpos) (R := RR (.ref s.heap.objs.size) (s.heap.objs.size + 1)) (pins := []) (a := a0) (o := o0) (acc := s.heap.objs.size) xc xxe (hsh it s.heap.objs.size X'.env) (by rw [xp, xw]; exact hdnL _ _ _) T' st0 f0' hg ht hb0 I0 (by rw [xpn]; exact fun p hp => absurd hp (by simp)) (.inr (by rw [x0]; exact Nat.le_refl _)) hA0 rd ?_
    · rw [xp, xw, xA, xe] at key
      exact key
    intro s5 a5 o5 σ5 H4 I5 ha5 q fr5
    have pa := I5.pin (s.heap.objs.size, o5) (by rw [xpn]; simp)
    have nacc : H4 s.heap.objs.size = none := pa.2.1
    have nC : H4 (s.heap.objs.size + 1) = none := by have z := I5.free; rw [xe] at z; exact z
    have un : Un (frs X.stack) fp H H4 s.heap s5.heap := by have z := I5.base; rw [xf, xx, xh, x0] at z; exact z
    have un2 : Un (frs X.stack) fp H (upd H4 s.heap.objs.size (HOf s.heap.objs.size a5)) s.heap s5.heap := by
      refine ⟨un.keep, un.slot, fun b o e n hx => ?_, un.there, fun b xs e => ?_, fun b o u e => ?_, fun b ps e => ?_⟩
      · rw [upd_ne (Nat.ne_of_lt (Heap.lt_size e))]
        exact un.free b o e n hx
      · have z := un.tups b xs e
        rw [upd_ne (ne_of_none z nacc)]; exact z
      · have z := un.frzs b o u e
        rw [upd_ne (ne_of_none z nacc)]; exact z
      · obtain ⟨more, z⟩ := un.tbls b ps e
        exact ⟨more, by rw [upd_ne (ne_of_none z nacc)]; exact z⟩
    have hok5 : HOk X.prog X.w H4 s5.heap := by have z := I5.hok; rw [xp, xw] at z; exact z
    have hok2 : HOk X.prog X.w (upd H4 s.heap.objs.size (HOf s.heap.objs.size a5)) s5.heap := fun b u e => by
      by_cases hb : b = s.heap.objs.size
      · subst hb
        rw [upd_same] at e
        cases e
        exact hHO _ _ _ _ _ I.big ha5 pa.1
      · rw [upd_ne hb] at e
        exact (hok5 b u e).stay (fun _ _ _ q => q) (fun c q => by rw [upd_ne (ne_of_none q nacc)]; exact q) fun c xs q => by rw [upd_ne (ne_of_none q nacc)]; exact q
    have os5 : s5.os = s.os := by have z := I5.os; rw [x0] at z; exact z
    have J5 : Inv X pins σ (upd H4 s.heap.objs.size (HOf s.heap.objs.size a5)) s5 := I.call' os5 un2 hok2 I5.bare fun b hb => by
      obtain ⟨f0, f1, f2, f3, f4, f5⟩ := hf b hb
      exact ⟨f3, f1, f4, f5⟩
    refine hRR _ _ a5 H4 s5 J5 (I.fpOk (Nat.le_succ _) ?_) ?_ nacc q
    · rw [upd_ne (Nat.succ_ne_self _)]; exact nC
    · obtain ⟨m, hn, _⟩ := I5.loc
      rw [xe] at hn
      exact ⟨m, hn⟩
  exact compStart_gen hcl hga (hdnS _ _ _) (fun it' => hq _ _ _) loop (T.self _ 0 _ _ _ st0 loop)
end
end L2
namespace L2
open PySem PySem.Spec PyProof.Rows
def nestBody (e iter2 : Expr) (acc : Addr) (env : Env) : Sem Unit := do
  let x ← eval iter2 env
  standAt iter2.pos
  let x ← foldedSetIterable iter2 env x
  let _ ← runOwn (.compStart e 1 (← holding [x] (pyIter x)) (.ref acc) env) env
def tNest {AS : Type} (wi : TI) (g : TG) (tt : TT) (tb : TB AS) : TB AS := fun a σ H Q => wi σ H fun J H1 => gTurns J g tt tb Q a σ H1
theorem pbd_nest {X : Cx} {AS : Type} {AO : AS → Obj → Prop} {acc : Addr} {e iter2 target2 : Expr} {ifs2 : List Expr} {tpos2 : Pos} {gcl : Comprehension} {body : Sem Unit} {wi : TI} {g : TG} {tt : TT} {tb : TB AS} (hc : X.calm = true) (xxe : X.xe = fun _ _ => False)
    (hi : PI X target2 iter2 wi) (hg : PG X target2 g) (ht : PTs X ifs2 tt) (hb : PBd X AO acc body tb) (hfold : ∀ x, foldedSetIterable iter2 X.env x = pure x)
    (hcl : (clausesOf e)[1]? = some gcl) (hga : gcl.is_async = 0)
    (hsh : ∀ it : Addr, compTurn e 1 (.ref it) (.ref acc) X.env = compShape tpos2 (.ref it) target2 X.env ifs2 body (again (.compLoop e 1 (.ref it) (.ref acc) X.env)))
    (hdnS : ∀ (it : Value) (A : Around) (Q : PySem.Fin → Shared → Prop) (E : Value → Shared → Prop) (s : Shared), wpAny (model X.prog X.w) A ((compStart e 1 it (.ref acc) X.env).onRaise (fun x => do noteFrame x X.env; standAt theWindowsPlace)) Q E s → wpAny (model X.prog X.w) (A.under (.compStart e 1 it (.ref acc) X.env)) ((model X.prog X.w).den (.compStart e 1 it (.ref acc) X.env)) Q E s)
    (hdnL : ∀ (it : Value) (A : Around) (Q : PySem.Fin → Shared → Prop) (E : Value → Shared → Prop) (s : Shared), wpAny (model X.prog X.w) A ((compTurn e 1 it (.ref acc) X.env).onRaise (fun x => do noteFrame x X.env; theTreesLotGoes x)) Q E s → wpAny (model X.prog X.w) (A.under (.compLoop e 1 it (.ref acc) X.env)) ((model X.prog X.w).den (.compLoop e 1 it (.ref acc) X.env)) Q E s)
    (hq : ∀ it, (Code.compLoop e 1 it (.ref acc) X.env).quiet = true) : PBd X AO acc (nestBody e iter2 acc X.env) (tNest wi g tt tb) := by
  intro pins s σ H a o Q I np hx ha h
  have h0 := hi _ s σ H _ I h
  rw [xxe] at h0
  unfold nestBody
  refine wpAny_bind (thn h0 fun v s1 h1 => wpAny_bind (wpAny_standAt (wpAny_bind (wpAny_of_eq (hfold v) (wpAny_bind (wpAny_holding (thn h1 fun itv s2 h2 => ?_)))))))
  obtain ⟨it, fp, tn, J, H2, e2, I2, T, st2, f2, rd⟩ := h2
  subst e2
  refine wpAny_bind (wpAny_runOwn ?_)
  have loop := gloop (X := X) (AO := AO) (e := e) (d := 1) (tpos := tpos2) (R := fun r s' => match r with
      | .ok f => wpAny (model X.prog X.w) X.A (pure () : Sem Unit) (fun _ s' => ∃ (a' : AS) (o' : Obj) (σ' : St) (H' : Hp), Inv X ((acc, o') :: pins) σ' H' s' ∧ AO a' o' ∧ Q a' σ' H') (fun _ _ => False) s'
      | .error e => cameBackBy (model X.prog X.w) X.A X.env (fun _ _ => False) e s') hc xxe (hsh it) (hdnL _) T st2 f2 hg ht hb I2 np hx ha rd
    (fun s' a' o' σ' H' I' ha' q' _ => wpAny_pure ⟨a', o', σ', H', I', ha', q'⟩)
  exact compStart_gen hcl hga (hdnS _) hq loop (T.self _ 0 _ _ _ st2 loop)
def StrObj (P : Program) (w : World) (ss : List Str) (o : Obj) : Prop :=
  ∃ (es : Array (Int × Value)) (ep : Nat) (t : SetTable), o = sOb es ep t ∧ ElemsOf (PySem.strKind P w) es.toList ∧ StrsAre (es.toList.map (·.2)) ss ∧ es.size < scanBound ∧ t.fits es.size = true ∧ t.led = !w.params.followText "set-order" ∧ (es.size ≠ 0 → t.plain = false)
theorem StrObj.set {P : Program} {w : World} {ss : List Str} {o : Obj} {h : Heap} {a : Addr} (x : StrObj P w ss o) (e : h.get? a = some o) : StrSet P w h a ss := by
  obtain ⟨es, ep, t, rfl, r⟩ := x
  exact ⟨es, ep, t, e, r⟩
theorem StrSet.obj {P : Program} {w : World} {ss : List Str} {h : Heap} {a : Addr} (x : StrSet P w h a ss) : ∃ o, h.get? a = some o ∧ StrObj P w ss o := by
  obtain ⟨es, ep, t, e, r⟩ := x
  exact ⟨_, e, es, ep, t, rfl, r⟩
theorem StrObj.nocell {P : Program} {w : World} {ss : List Str} {o : Obj} (x : StrObj P w ss o) : ∀ v, o.data ≠ .cell v := by
  obtain ⟨es, ep, t, rfl, _⟩ := x
  intro v z; cases z
def setBody (elt : Expr) (acc : Addr) (env : Env) : Sem Unit := do
  let v ← eval elt env
  standAt elt.pos
  let _ ← call (.builtin "set.add") [.ref acc, v]
def tPut (te : TE) : TB (List Str) := fun ss σ H Q => te σ H fun v H' => ∃ x : Str, v = .str x ∧ ss.length < 1000 ∧ ∀ ss', (if x ∈ ss then ss' = ss else ss'.Perm (ss ++ [x])) → Q ss' σ H'
theorem pbd_set {X : Cx} {acc : Addr} {elt : Expr} {te : TE} (xxe : X.xe = fun _ _ => False) (he : PE X elt te) : PBd X (StrObj X.prog X.w) acc (setBody elt acc X.env) (tPut te) := by
  intro pins s σ H a o Q I np hx ha h
  have h0 := he _ s σ H _ I h
  rw [xxe] at h0
  unfold setBody
  refine wpAny_bind (thn h0 fun v s1 ⟨y, H1, I1, r1, x, ex, hl, q⟩ => wpAny_bind (wpAny_standAt (wpAny_bind ?_)))
  subst ex
  obtain ⟨tk, rfl⟩ := r1
  have pa := I1.pin (acc, o) (List.mem_append_right _ List.mem_cons_self)
  have hS : StrSet X.prog X.w s1.heap acc a := ha.set pa.1
  have hT : s1.TypeIs (.ref acc) "set" := by
    obtain ⟨es, ep, t, ho, _⟩ := hS
    exact ⟨_, ho, rfl⟩
  refine wpAny_call_entry PySem.F.slot_set_add hT PySem.F.entry_set_add ?_ (PySem.F.args_set_add_2 _ _)
  unfold Builtin.«set.add» Builtin.Frozenset.oneOther
  simp only [List.isEmpty_nil, bind_assoc]
  unfold Builtin.Frozenset.addrOf setAdd
  refine wpAny_bind (wpAny_pure ?_)
  try dsimp only
  refine wpAny_bind (wpAny_pure ?_)
  try dsimp only
  refine wpAny_bind (wpAny_holding (wpAny_bind ((PySem.strKind X.prog X.w).pyHash (strKind_is X.prog X.w x tk) ?_)))
  refine tset_add (s := { s1 with toks := s1.toks + 1 }) hS (by have : scanBound = 4096 := rfl; omega) fun h2 ss2 sb2 hS2 q2 => ?_
  show wpAny _ _ (ret Value.none) _ _ _
  refine wpAny_pure ⟨_, rfl, wpAny_pure ?_⟩
  obtain ⟨o2, e2, ho2⟩ := hS2.obj
  exact ⟨ss2, o2, σ, H1, I1.repin (t' := s1.toks + 1) (fun b u hb e => (sb2.2 b hb).trans e) e2 ho2.nocell hx np, ho2, q ss2 q2⟩
end L2
namespace L2
open PySem PySem.Spec PyProof.Rows
structure GC (P : Program) (w : World) {AS : Type} (e target iter : Expr) (ifs : List Expr) (scope : Scope) (tpos : Pos) (newAcc : Sem Value) (body : Addr → Env → Sem Unit) (o0 : Obj) (a0 : AS) (AO : AS → Obj → Prop) (HOf : Addr → AS → HO) : Prop where
  new : ∀ (A : Around) (s : Shared) (Q : Value → Shared → Prop) (E : Value → Shared → Prop), Q (.ref s.heap.objs.size) { s with heap := s.heap.push o0 } → wpAny (model P w) A newAcc Q E s
  nf : o0.isFreed = false
  nc : ∀ a o, AO a o → ∀ v, o.data ≠ .cell v
  hA0 : AO a0 o0
  hHO : ∀ (H' : Hp) (h : Heap) (acc : Addr) (a : AS) (o : Obj), sysModules < acc → AO a o → h.get? acc = some o → ObjOk P w H' h acc (HOf acc a)
  cl : ∃ gs, clausesOf e = ⟨target, iter, ifs, 0⟩ :: gs
  dnS : ∀ (it acc : Value) (env : Env) (A : Around) (Q : PySem.Fin → Shared → Prop) (E : Value → Shared → Prop) (s : Shared), wpAny (model P w) A ((compStart e 0 it acc env).onRaise (fun x => do noteFrame x env; standAt theWindowsPlace)) Q E s → wpAny (model P w) (A.under (.compStart e 0 it acc env)) ((model P w).den (.compStart e 0 it acc env)) Q E s
  dnL : ∀ (it acc : Value) (env : Env) (A : Around) (Q : PySem.Fin → Shared → Prop) (E : Value → Shared → Prop) (s : Shared), wpAny (model P w) A ((compTurn e 0 it acc env).onRaise (fun x => do noteFrame x env; theTreesLotGoes x)) Q E s → wpAny (model P w) (A.under (.compLoop e 0 it acc env)) ((model P w).den (.compLoop e 0 it acc env)) Q E s
  q : ∀ it acc env, (Code.compLoop e 0 it acc env).quiet = true
  sh : ∀ (it acc : Addr) (env : Env), compTurn e 0 (.ref it) (.ref acc) env = compShape tpos (.ref it) target env ifs (body acc env) (again (.compLoop e 0 (.ref it) (.ref acc) env))
def tGath {AS : Type} (sub : List (Option Nat)) (wi : TI) (g : TG) (tt : TT) (tb : TB AS) (a0 : AS) (HOf : Addr → AS → HO) : TE := fun σ H Q => wi σ H fun J H1 =>
  gTurns J g tt tb (fun a _ H' => ∀ r, H' r = none → Q (.ref r) (upd H' r (HOf r a))) a0 (subσ sub σ) H1
section
variable {X : Cx} {AS : Type} {e target iter : Expr} {ifs : List Expr} {scope sc : Scope} {pos tpos cpos : Pos} {N N' : List Str} {sub : List (Option Nat)} {wi : TI} {g : TG} {tt : TT} {tb : TB AS} {newAcc : Sem Value} {body : Addr → Env → Sem Unit} {o0 : Obj} {a0 : AS} {AO : AS → Obj → Prop} {HOf : Addr → AS → HO}
theorem pe_g (GG : GC X.prog X.w e target iter ifs scope tpos newAcc body o0 a0 AO HOf) (hev : eval e X.env = comprehension e scope X.env cpos newAcc false (eval iter X.env)) (hN : X.N = N) (hsc : X.env.scope = sc) (O : CmpOk N sc N' scope sub) (hc : X.calm = true) (hi : PI X target iter wi)
    (B : ∀ C s H fp, PG (cmpOf X scope N' C s H fp) target g ∧ PTs (cmpOf X scope N' C s H fp) ifs tt ∧ ∀ acc, PBd (cmpOf X scope N' C s H fp) AO acc (body acc (cmpOf X scope N' C s H fp).env) tb)
    (hs : ∀ x, foldedSetIterable iter X.env x = pure x := by intro _; rfl) : PE X e (tGath sub wi g tt tb a0 HOf) := by
  subst hN hsc
  intro pins s σ H Q I h
  rw [hev]
  obtain ⟨gs, hcl⟩ := GG.cl
  refine wpAny_comprehension_free (use := none) hcl hs (clos_of I O) O.kind (names_of O) (thn (hi pins s σ H _ I h) fun v s1 h1 => thn h1 fun itv s2 h2 => ?_)
  obtain ⟨it, fp, tn, J, H2, e, I2, T, st2, f2, rd⟩ := h2
  subst e
  refine gcore (RR := fun acc C => compPost (model X.prog X.w) X.A X.xe none (EP X pins σ Q) acc C) GG.new GG.nf GG.nc GG.hA0 GG.hHO (by rw [hcl]; rfl) rfl GG.dnS GG.dnL GG.q GG.sh hc I2 O T st2 f2 B rd fun acc C a H' s' I' fC hn na q => ?_
  obtain ⟨m, hn⟩ := hn
  obtain ⟨f0, f1, f3, f4, f5, f6⟩ := fC
  refine ⟨m, hn, fun h' sb => ?_⟩
  exact ⟨.ref acc, upd H' acc (HOf acc a), I'.turned (t' := s'.toks) (it := C) (fun b o hb e => (sb.2 b hb).trans e) f0 f1 f4 f5 f6, rfl, q acc na⟩
theorem ps_g {i : Nat} {y : Str} {py spos : Pos} (GG : GC X.prog X.w e target iter ifs scope tpos newAcc body o0 a0 AO HOf)
    (hev : ∀ use, evalThenUse e X.env use = (do let _ ← comprehension e scope X.env cpos newAcc false (eval iter X.env) (some use))) (hN : X.N = N) (hsc : X.env.scope = sc) (O : CmpOk N sc N' scope sub) (hc : X.calm = true) (hi : PI X target iter wi)
    (B : ∀ C s H fp, PG (cmpOf X scope N' C s H fp) target g ∧ PTs (cmpOf X scope N' C s H fp) ifs tt ∧ ∀ acc, PBd (cmpOf X scope N' C s H fp) AO acc (body acc (cmpOf X scope N' C s H fp).env) tb)
    (nd : X.N.Nodup) (hy : X.N[i]? = some y) (hx : Loc X.env.scope y) (hsw : swapsWith e (some (.Name y py)) spos.line X.env = pure true := by rfl)
    (hs : ∀ x, foldedSetIterable iter X.env x = pure x := by intro _; rfl) (hf : X.fn y = true ∨ X.env.scope.names.lookup y = some .local := by first | exact .inl rfl | exact .inr rfl | assumption) : PS X (.Assign [.Name y py] e spos) (tAsg (tGath sub wi g tt tb a0 HOf) (gName i)) := by
  subst hN hsc
  intro pins s σ H D I h
  rw [exec_Assign_Name_used _ _ _ _ hsw, hev]
  obtain ⟨gs, hcl⟩ := GG.cl
  refine wpAny_bind (wpAny_standAt (wpAny_bind ?_))
  refine wpAny_bind (wpAny_mono (wpAny_comprehension_free (use := some (assign (.Name y py) X.env)) (Q := fun _ s' => SP X pins D .next s') hcl hs (clos_of I O) O.kind (names_of O) (thn (hi pins s σ H _ I h) fun v s1 h1 => thn h1 fun itv s2 h2 => ?_)) (fun _ s' hq => wpAny_pure (wpAny_pure hq)) fun _ _ e => e)
  obtain ⟨it, fp, tn, J, H2, e, I2, T, st2, f2, rd⟩ := h2
  subst e
  refine gcore (RR := fun acc C => compPost (model X.prog X.w) X.A X.xe (some (assign (.Name y py) X.env)) (fun _ s' => SP X pins D .next s') acc C) GG.new GG.nf GG.nc GG.hA0 GG.hHO (by rw [hcl]; rfl) rfl GG.dnS GG.dnL GG.q GG.sh hc I2 O T st2 f2 B rd fun acc C a H' s' I' fC hn na q => ?_
  obtain ⟨m, hn⟩ := hn
  obtain ⟨f0, f1, f3, f4, f5, f6⟩ := fC
  show wpAny _ _ (assign (.Name y py) X.env (.ref acc)) _ _ s'
  refine wpAny_assign_Name (store_ok2 (v := .ref acc) I' nd hy hx rfl (fun s'' I'' ⟨b, sb, ha⟩ => ?_) hf)
  have nCa : C ≠ b := by
    rcases ha with z | z
    · rw [z]; exact f1
    · exact fun e => f5 _ _ z e.symm
  refine ⟨m, hn.sameBut sb nCa, fun h' sb' => ?_⟩
  exact ⟨_, upd H' acc (HOf acc a), I''.turned (t' := s''.toks) (it := C) (fun b o hb e => (sb'.2 b hb).trans e) f0 f1 f4 f5 f6, q acc na⟩
end
section
variable {P : Program} {w : World} {target iter target2 iter2 elt kx vx : Expr} {ifs ifs2 : List Expr} {scope : Scope} {pos : Pos}
theorem gc_set2 : GC P w (.SetComp elt [⟨target, iter, ifs, 0⟩, ⟨target2, iter2, ifs2, 0⟩] scope pos) target iter ifs scope iter.pos (newSet (.type "set")) (nestBody (.SetComp elt [⟨target, iter, ifs, 0⟩, ⟨target2, iter2, ifs2, 0⟩] scope pos) iter2) (setO w) ([] : List Str) (StrObj P w) (SetS P w) where
  new := fun A s Q E h => by
    unfold newSet setsByText
    refine wpAny_bind (wpAny_bind (wpAny_askSetting (wpAny_pure ?_)))
    dsimp only
    simp only [newObj]
    exact wpAny_bind (wpAny_alloc (wpAny_pure h))
  nf := rfl
  nc := fun a o h => h.nocell
  hA0 := by
    obtain ⟨o, e, r⟩ := (setO_ok P w (h := (({} : Heap).push (setO w))) (a := ({} : Heap).objs.size) (Heap.get?_push_size _ rfl)).obj
    rw [Heap.get?_push_size _ rfl] at e
    cases e
    exact r
  hHO := fun H' h acc a o _ x e => ⟨x.set e, ⟨o, e⟩, fun h1 h2 z k => z.at k⟩
  cl := ⟨_, rfl⟩
  dnS := fun _ _ _ _ _ _ _ h => h
  dnL := fun _ _ _ _ _ _ _ h => h
  q := fun _ _ _ => rfl
  sh := fun it acc env => by
    unfold compShape nestBody
    simp only [bind_assoc]
    rfl
end
end L2
namespace L2
open PySem PySem.Spec PyProof.Rows
def DOb (P : Program) (w : World) (kvs : List (Key × V)) (o : Obj) : Prop :=
  kvs.length ≤ sizeLine ∧ ∃ (vs : List (Key × Value)) (es : Array DictEntry) (ep : Nat), KV kvs vs ∧ o.ExactDict ∧ o.data = .dict es ep ∧ KeysOf (mixKind P w) es ∧ Pairs (mixKind P w) es.toList vs ∧ (vs.map (·.1)).Nodup
def dictBody (kx vx : Expr) (acc : Addr) (env : Env) : Sem Unit := do
  let kv ← eval kx env
  let vv ← holding [kv] (eval vx env)
  standAt { kx.pos with endLine := vx.pos.endLine, endCol := vx.pos.endCol }
  holding [kv, vv] (dictSet acc kv vv)
def tPutD (tk tv : TE) : TB (List (Key × V)) := fun kvs σ H Q => tk σ H fun x H1 => tv σ H1 fun y H2 => ∃ k : Key, x = kV k ∧ kvs.length < sizeLine ∧ Q (putK kvs k y) σ H2
theorem pbd_dict {X : Cx} {acc : Addr} {kx vx : Expr} {tk tv : TE} (xxe : X.xe = fun _ _ => False) (hk : PE X kx tk) (hv : PE X vx tv) : PBd X (DOb X.prog X.w) acc (dictBody kx vx acc X.env) (tPutD tk tv) := by
  intro pins s σ H a o Q I np hx ha h
  have h0 := hk _ s σ H _ I h
  rw [xxe] at h0
  unfold dictBody
  refine wpAny_bind (thn h0 fun u s1 ⟨x, H1, I1, r1, q1⟩ => wpAny_bind (wpAny_holding ?_))
  have h2 := hv _ s1 σ H1 _ I1 q1
  rw [xxe] at h2
  refine thn h2 fun r s2 ⟨y, H2, I2, r2, k, ex, hl, q⟩ => wpAny_bind (wpAny_standAt (wpAny_holding ?_))
  subst ex
  obtain ⟨hz, vs, es, ep, kv, d1, d2, d3, d4, d5⟩ := ha
  have pa := I2.pin (acc, o) (List.mem_append_right _ List.mem_cons_self)
  have hlen := kv.length
  refine wpAny_dictSet_pairs (hsz := by omega) (kV_is r1) (show s2.heap.DictOf (mixKind X.prog X.w) acc vs from ⟨o, es, ep, pa.1, d1, d2, d3, d4, d5⟩) fun h3 dd sb => ?_
  obtain ⟨o3, es3, ep3, e1, e2, e3, e4, e5, e6⟩ := dd
  have hl3 := length_putK a k y
  exact ⟨putK a k y, o3, σ, H2, I2.repin (t' := s2.toks + 1) (fun b u hb e => (sb.2 b hb).trans e) e1 (fun v z => by rw [e3] at z; cases z) hx np, ⟨by omega, _, es3, ep3, kv.put k r2, e2, e3, e4, e5, e6⟩, q⟩
theorem gc_dict {P : Program} {w : World} {target iter kx vx : Expr} {ifs : List Expr} {scope : Scope} {pos : Pos} :
    GC P w (.DictComp kx vx [⟨target, iter, ifs, 0⟩] scope pos) target iter ifs scope iter.pos (newDict) (dictBody kx vx) { cls := .type "dict", data := .dict #[] } ([] : List (Key × V)) (DOb P w) (fun _ kvs => .dK kvs) where
  new := fun A s Q E h => wpAny_newObj_type h (by size_fits)
  nf := rfl
  nc := fun a o h v z => by
    obtain ⟨_, vs, es, ep, _, _, e, _⟩ := h
    rw [e] at z; cases z
  hA0 := ⟨Nat.zero_le _, [], #[], 0, .nil, ⟨rfl, rfl, rfl⟩, rfl, fun e he => by simp at he, .nil, List.nodup_nil⟩
  hHO := fun H' h acc a o hb x e => by
    obtain ⟨hz, vs, es, ep, kv, d1, d2, d3, d4, d5⟩ := x
    exact dk_new hz (beq_eq_false_iff_ne.mpr (Nat.ne_of_gt hb)) kv ⟨o, es, ep, e, d1, d2, d3, d4, d5⟩
  cl := ⟨_, rfl⟩
  dnS := fun _ _ _ _ _ _ _ h => h
  dnL := fun _ _ _ _ _ _ _ h => h
  q := fun _ _ _ => rfl
  sh := fun _ _ _ => rfl
end L2
namespace L2
open PySem PySem.Spec PyProof.Rows
theorem FS.entry_dii : entryFor table "dict_itemiterator.__iter__" = some Builtin.«dict_keyiterator.__iter__» := entryFor_alias (id' := "dict_keyiterator.__iter__") (by kernel_rfl) (by first | rfl | decide +kernel | (unfold String.splitOn; simp +decide [String.splitOnAux])) (by decide +kernel) (by kernel_rfl)
def itV (kvs : List (Key × V)) (i : Nat) : List V := match kvs[i]? with
  | some p => [kV p.1, p.2]
  | none => []
theorem turn_items {P : Program} {w : World} {K : PySem.W.Frag} {elts : List Expr} {ct : Nat} {pos : Pos} (it d : Addr) (o : Obj) (kvs : List (Key × V)) (vs : List (Key × Value)) (es : Array DictEntry) (ep : Nat)
    (hne : d ≠ it) (kv : KV kvs vs) (hx : o.ExactDict) (hd : o.data = .dict es ep) (hk : KeysOf (mixKind P w) es) (hp : Pairs (mixKind P w) es.toList vs) (nd : (vs.map (·.1)).Nodup) :
    Turn P w K (.Tuple elts ct pos) (Itp kvs.length (fun H => H d = some (.frz o (.dK kvs))) (itV kvs)) [it] it (fun i h => ∃ ok ov, IsItemIter h it d i vs.length ep ok ov) where
  mem := by simp
  obj := fun i h st b hb => by
    have e : b = it := by simpa using hb
    subst e
    obtain ⟨ok, ov, e⟩ := st
    exact ⟨_, e, fun v z => by cases z⟩
  keep := fun i h h' st k => by
    obtain ⟨ok, ov, e⟩ := st
    exact ⟨ok, ov, k it (by simp) _ e⟩
  item := by
    intro X hP hw hK hc i pins s σ H E I hf st hg
    subst hP hw hK
    obtain ⟨hH, hi⟩ := hg
    obtain ⟨ok, ov, hit⟩ := st
    have ho : s.heap.get? d = some o := (I.hok d _ hH).1
    have da : s.heap.DictAt (mixKind X.prog X.w) d vs ep := ⟨o, es, ho, hx, hd, hk, hp, nd⟩
    obtain ⟨⟨k, xv⟩, hkx⟩ : ∃ p, kvs[i]? = some p := ⟨kvs[i], by simp [hi]⟩
    have hvl : i < vs.length := by have := kv.length; omega
    obtain ⟨⟨k', uv⟩, hkv⟩ : ∃ p, vs[i]? = some p := ⟨vs[i], by simp [hvl]⟩
    have pr : (k = k' ∧ RelV xv uv) := by
      have : ∀ {a : List (Key × V)} {b : List (Key × Value)} {i : Nat} {p : Key × V} {q : Key × Value}, KV a b → a[i]? = some p → b[i]? = some q → p.1 = q.1 ∧ RelV p.2 q.2 := by
        intro a b i p q r
        induction r generalizing i with
        | nil => intro h; simp at h
        | cons h t ih =>
          cases i with
          | zero => intro e1 e2; simp at e1 e2; subst e1 e2; exact h
          | succ i => intro e1 e2; exact ih (by simpa using e1) (by simpa using e2)
      exact this kv hkx hkv
    obtain ⟨rfl, rv⟩ := pr
    refine wpAny_pyNext_items_item hit da hkv fun key h1 hkey ho1 ht hs1 k1 => ?_
    refine ⟨_, rfl, wpAny_letOwnedTupleGo_items ho1 fun h2 hi2 sb2 => ?_⟩
    have hTit : s.heap.objs.size ≠ it := Nat.ne_of_gt (Heap.lt_size hit)
    have ht2 : h2.get? s.heap.objs.size = some { cls := .type "tuple", data := .seq #[key, uv] } := sb2.extBut _ _ hTit ht
    have rk : RelV (kV k) key := by
      rcases keyIs_shape (show keyIs k key = true from hkey) with ⟨j, t, rfl, rfl⟩ | ⟨x, t, rfl, rfl⟩
      · exact ⟨t, rfl⟩
      · exact ⟨t, rfl⟩
    have ei : itV kvs i = [kV k, xv] := by unfold itV; rw [hkx]
    refine ⟨.ref s.heap.objs.size, upd H s.heap.objs.size (.tup (itV kvs i)), I.turnedT (t' := s.toks) (d' := s.drawn) (ch := [it]) (fun b u hb e => ?_) hf (Nat.le_refl _) ⟨?_, [key, uv], ?_, ⟨_, ht2, rfl, _, rfl⟩⟩, rfl, ⟨_, I.hok.fresh (Nat.le_refl _), rfl, rfl⟩, ⟨_, _, hi2⟩, fun b hb => ?_⟩
    · have nb : b ≠ it := by simpa using hb
      exact sb2.extBut _ _ nb (k1 b u nb e)
    · rw [ei]; show 2 ≤ sizeLine; decide
    · rw [ei]; exact .cons rk (.cons rv .nil)
    · have e : b = it := by simpa using hb
      subst e
      rw [upd_ne (Ne.symm hTit)]
      exact (hf b (by simp)).1
  done := by
    intro X hP hw hK hc i pins s σ H E I hf st hg
    subst hP hw hK
    obtain ⟨hH, rfl⟩ := hg
    obtain ⟨ok, ov, hit⟩ := st
    have ho : s.heap.get? d = some o := (I.hok d _ hH).1
    have da : s.heap.DictAt (mixKind X.prog X.w) d vs ep := ⟨o, es, ho, hx, hd, hk, hp, nd⟩
    obtain ⟨f0, f1, f2, f3, f4, f5⟩ := hf it (by simp)
    have hl := kv.length
    exact wpAny_pyNext_items_end (I.ok.hd hc) hit da (by simp; omega) fun h' eb => ⟨rfl, I.turned (t' := s.toks) (fun b o hb e => eb b o hb e) f0 f1 f3 f4 f5⟩
  self := fun A i s Q E st h => by
    obtain ⟨ok, ov, hit⟩ := st
    have hT : s.TypeIs (.ref it) "dict_itemiterator" := ⟨_, hit, rfl⟩
    refine wpAny_pyIter_slot hT PySem.F.slot_dict_itemiterator_iter (wpAny_call_entry PySem.F.slot_dict_itemiterator_iter hT FS.entry_dii ?_ (PySem.F.args_dict_itemiterator_iter_1 _))
    exact wpAny_pure ⟨_, rfl, "dict_itemiterator", _, hT, PySem.F.slot_dict_itemiterator_next.lookup, h⟩
def iItems (td : TE) : TI := fun σ H R => td σ H fun x H1 => ∃ d kvs, x = .ref d ∧ H1 d = some (.dK kvs) ∧ ∀ o, R (Itp kvs.length (fun H => H d = some (.frz o (.dK kvs))) (itV kvs)) (upd H1 d (.frz o (.dK kvs)))
theorem pi_items {X : Cx} {oe : Expr} {td : TE} {apos cpos tpos : Pos} {elts : List Expr} {ct : Nat} (he : PE X oe td) (hbase : attributeBase oe "items" X.env (eval oe X.env) = eval oe X.env := by rfl) (hline : (apos.endLine == cpos.line) = true := by rfl) :
    PI X (.Tuple elts ct tpos) (.Call (.Attribute oe "items" apos) [] [] cpos) (iItems td) := by
  intro pins s σ H R I h
  refine wpAny_Call_method0_late hbase hline (thn (he pins s σ H _ I h) fun v s1 ⟨x, H1, I1, r1, q1⟩ => ?_)
  obtain ⟨d, kvs, e, hH, q⟩ := q1
  subst e
  cases r1
  obtain ⟨h1, h2⟩ := tyV_is I1 (x := .ref d) (v := .ref d) (T := "dict") rfl (.inr (.inr (.inl ⟨rfl, .inl ⟨kvs, hH⟩⟩)))
  obtain ⟨hz, hsm, vs, kv, o, es, ep, ho, hx, hd, hk, hp, nd⟩ := dk_of I1.hok hH
  refine ⟨"dict", "dict.items", PySem.F.plainAttrs_dict, PySem.F.slot_dict_items, PySem.F.type_dict_items, h1, h2, Calls.callWith_builtin rfl (PySem.evalArgs_none ?_)⟩
  refine wpAny_call_entry PySem.F.slot_dict_items h1 PySem.F.entry_dict_items ?_ (PySem.F.args_dict_items_1 _)
  unfold Builtin.«dict.items» Builtin.Dict.noArgs
  refine wpAny_bind (wpAny_bind (wpAny_notOrdered_dict h1 ?_))
  refine wpAny_pure ?_
  show wpAny _ _ (Builtin.Dict.showsAll d >>= _) _ _ _
  unfold Builtin.Dict.showsAll
  rw [if_neg (by rw [hsm]; exact Bool.false_ne_true)]
  refine wpAny_bind (wpAny_pure (wpAny_bind (wpAny_newObj_type (wpAny_pure ⟨_, rfl, ?_⟩))))
  have I2 : Inv X pins σ (upd H1 d (.frz o (.dK kvs))) s1 := by
    refine I1.write (t' := s1.toks) (h' := s1.heap) (x := d) (e := d) (by rw [hH]; trivial) (.inl rfl) (fun _ _ _ q => q) ⟨o, ho⟩ ⟨ho, ?_⟩
    exact ⟨hz, hsm, vs, kv, o, es, ep, ho, hx, hd, hk, hp, nd⟩
  have I3 : Inv X pins σ (upd H1 d (.frz o (.dK kvs))) { s1 with heap := s1.heap.push { cls := .type "dict_items", data := .fields #[.ref d] } } := I2.kept (t' := s1.toks) fun b o e => Heap.get?_push_of_some _ e
  have da : (s1.heap.push { cls := .type "dict_items", data := .fields #[.ref d] }).DictAt (mixKind X.prog X.w) d vs ep := ⟨o, es, Heap.get?_push_of_some _ ho, hx, hd, hk, hp, nd⟩
  refine wpAny_pyIter_items (s := { s1 with heap := s1.heap.push { cls := .type "dict_items", data := .fields #[.ref d] } }) ⟨_, Heap.get?_push_size _ rfl, rfl, rfl⟩ da ?_
  have hd1 : d < s1.heap.objs.size := Heap.lt_size ho
  have hne : d ≠ (s1.heap.push { cls := .type "dict_items", data := .fields #[.ref d] }).objs.size := by rw [Heap.size_push]; exact Nat.ne_of_lt (Nat.lt_succ_of_lt hd1)
  refine ⟨_, [(s1.heap.push { cls := .type "dict_items", data := .fields #[.ref d] }).objs.size], _, _, _, rfl, I3.kept (t' := s1.toks) fun b o e => Heap.get?_push_of_some _ e, turn_items _ d o kvs vs es ep hne kv hx hd hk hp nd, ⟨_, _, Heap.get?_push_size _ rfl⟩, fun b hb => ?_, q o⟩
  have e : b = (s1.heap.push { cls := .type "dict_items", data := .fields #[.ref d] }).objs.size := by simpa using hb
  subst e
  exact I3.fpOk (Nat.le_refl _) (I3.hok.fresh (Nat.le_refl _))
end L2
namespace L2
open PySem PySem.Spec PyProof.Rows
section
variable {X : Cx}
end
end L2
namespace L2
open PySem PySem.Spec PyProof.Rows PySem.W
abbrev Rng (n : Nat) : Array Nat := List.toArray (List.range n)
def Gd (n : Nat) (p : Array Nat) : Prop := p.Perm (Rng n)
theorem Gd.lt {n : Nat} {p : Array Nat} (h : Gd n p) (h0 : 0 < n) (i : Nat) : p.getD i 0 < n := by
  by_cases hi : i < p.size
  · have e : p.getD i 0 = p[i] := by simp [Array.getD, hi]
    rw [e]
    have m : p[i] ∈ p.toList := by simp
    have m2 := (Array.perm_iff_toList_perm.mp h).mem_iff.mp m
    simpa using m2
  · have e : p.getD i 0 = 0 := by simp [Array.getD, hi]
    rw [e]; exact h0
theorem Gd.rev {n : Nat} {p : Array Nat} (h : Gd n p) (i j : Nat) : Gd n (kas_rev p i j) := (mirror_perm _ _ _ _).trans h
theorem Gd.bub {n : Nat} {p : Array Nat} (h : Gd n p) (i j : Nat) : Gd n (bubble p i j) := (bubble_perm _ _ _).trans h
section
variable {n : Nat} {cmp : Nat → Nat → (Bool → Shared → Prop) → Shared → Prop} {s : Shared} (hask : ∀ i j C, i < n → j < n → (∀ b, C b s) → cmp i j C s) (h0 : 0 < n)
include hask h0
end
def TupS (h : Heap) (v : Value) (t : List Str) : Prop := ∃ a its, v = .ref a ∧ IsTup h a its ∧ StrsAre its.toList t ∧ t ≠ []
section
variable {P : Program} {w : World} {A : Around} {E : Value → Shared → Prop} {s : Shared}
theorem tups_firsts {h h' : Heap} {a : Addr} (k : ∀ b o, b ≠ a → h.get? b = some o → h'.get? b = some o) : ∀ {vs : List Value} {ts : List (List Str)}, Paired (TupS h) vs ts → (∀ v ∈ vs, v ≠ .ref a) → ∃ fs : List Value, KatTups h' vs fs ∧ fs.length = vs.length ∧ ∀ f ∈ fs, ∃ x t, f = Value.str x t
  | _, _, .nil, _ => ⟨[], trivial, rfl, fun f hf => by cases hf⟩
  | _, _, @Paired.cons _ _ _ v t l1 l2 hh tt, hn => by
    obtain ⟨fs, q1, q2, q3⟩ := tups_firsts k tt fun u hu => hn u (List.mem_cons_of_mem _ hu)
    obtain ⟨b, its, rfl, ⟨o, g, c, n, d⟩, st, ne⟩ := hh
    have nb : b ≠ a := fun z => hn _ List.mem_cons_self (by rw [z])
    cases t with
    | nil => exact absurd rfl ne
    | cons x r =>
      have e := st.strs
      cases hi : its.toList with
      | nil => rw [hi] at e; cases e
      | cons f fr =>
        have hf : its[0]? = some f := by rw [← Array.getElem?_toList, hi]; rfl
        refine ⟨f :: fs, .cons (k b o nb g) c d hf q1, by simp [q2], fun g' hg' => ?_⟩
        rcases List.mem_cons.mp hg' with z | z
        · subst z
          exact st.all _ (by rw [hi]; exact List.mem_cons_self)
        · exact q3 g' z
end
end L2
namespace L2
open PySem PySem.Spec PyProof.Rows PySem.W
section
variable {X : Cx}
theorem refs_of : ∀ {as : List Addr} {us : List Value}, Vals (as.map V.ref) us → us = as.map Value.ref
  | [], _, r => by cases r; rfl
  | a :: as, _, r => by
    cases r with
    | cons h t => cases h; rw [refs_of t]; rfl
theorem vals_refs : ∀ as : List Addr, Vals (as.map V.ref) (as.map Value.ref)
  | [] => .nil
  | a :: as => .cons rfl (vals_refs as)
theorem tups_mk {pins : List (Addr × Obj)} {s : Shared} {σ : St} {H : Hp} {h' : Heap} (I : Inv X pins σ H s) (k : ∀ b o, s.heap.get? b = some o → h'.get? b = some o) : ∀ {as : List Addr} {ts : List (List Str)}, Paired (fun a t => SqT X.K H a (t.map V.str) ∧ t ≠ []) as ts → Paired (TupS h') (as.map Value.ref) ts
  | _, _, .nil => .nil
  | _, _, .cons h t => by
    obtain ⟨h1, h2⟩ := h
    obtain ⟨its, rv, ⟨o, g, c, n, d⟩, _⟩ := I.tuple h1
    exact .cons ⟨_, its.toArray, rfl, ⟨o, k _ _ g, c, n, d⟩, by simpa using strsAre_of rv, h2⟩ (tups_mk I k t)
theorem tups_lt {pins : List (Addr × Obj)} {s : Shared} {σ : St} {H : Hp} (I : Inv X pins σ H s) : ∀ {as : List Addr} {ts : List (List Str)}, Paired (fun a t => SqT X.K H a (t.map V.str) ∧ t ≠ []) as ts → ∀ b ∈ as, b < s.heap.objs.size
  | _, _, .nil, b, hb => by cases hb
  | _, _, .cons h t, b, hb => by
    rcases List.mem_cons.mp hb with z | z
    · subst z
      obtain ⟨its, rv, ⟨o, g, _⟩, _⟩ := I.tuple h.1
      exact Heap.lt_size g
    · exact tups_lt I t b z
end
end L2
namespace L2
open PySem PySem.Spec PyProof.Rows PySem.W
section
variable {AS : Type} {g : TG} {tt : TT} {tb : TB AS} {Q : AS → St → Hp → Prop} {a0 : AS} {σ0 : St} {H0 : Hp}
def NxG (n i : Nat) (Pv : Nat → AS → St → Hp → Prop) (a : AS) (σ : St) (H : Hp) : Prop := ∃ m', m' < n - i ∧ m' = n - (i + 1) ∧ i + 1 ≤ n ∧ Pv (i + 1) a σ H
theorem nxg {n i : Nat} {Pv : Nat → AS → St → Hp → Prop} {a : AS} {σ : St} {H : Hp} (hi : i < n) (h : Pv (i + 1) a σ H) : NxG n i Pv a σ H := ⟨_, by omega, rfl, hi, h⟩
theorem g_list {K : PySem.W.Frag} {p : Addr} {xs : List V} (Pv : Nat → AS → St → Hp → Prop) (h0 : Pv 0 a0 σ0 H0) (hl : ∀ i a σ H, i ≤ xs.length → Pv i a σ H → SqL K H p xs)
    (hs : ∀ i x a σ H, xs[i]? = some x → Pv i a σ H → g x σ H fun σ2 H2 => tt σ2 H2 fun b H3 => if b = true then tb a σ2 H3 (NxG xs.length i Pv) else NxG xs.length i Pv a σ2 H3)
    (hd : ∀ a σ H, Pv xs.length a σ H → Q a σ H) : gTurns (Itl K p) g tt tb Q a0 σ0 H0 := by
  refine ⟨fun i m a σ H => m = xs.length - i ∧ i ≤ xs.length ∧ Pv i a σ H, ⟨xs.length, by simp, Nat.zero_le _, h0⟩, ?_⟩
  rintro i m a σ H ⟨rfl, hi, pv⟩
  have q := hl i a σ H hi pv
  by_cases hlt : i < xs.length
  · refine .inr ⟨⟨xs, xs[i], q, by simp [hlt]⟩, fun x H' y => ?_⟩
    obtain ⟨e, y⟩ := y
    subst e
    exact hs i x a σ _ (y xs q) pv
  · have e : i = xs.length := by omega
    subst e
    exact .inl ⟨⟨xs, q, Nat.le_refl _⟩, hd a σ H pv⟩
theorem g_tuple {K : PySem.W.Frag} {p : Addr} {xs : List V} (Pv : Nat → AS → St → Hp → Prop) (h0 : Pv 0 a0 σ0 H0) (hl : ∀ i a σ H, i ≤ xs.length → Pv i a σ H → SqT K H p xs)
    (hs : ∀ i x a σ H, xs[i]? = some x → Pv i a σ H → g x σ H fun σ2 H2 => tt σ2 H2 fun b H3 => if b = true then tb a σ2 H3 (NxG xs.length i Pv) else NxG xs.length i Pv a σ2 H3)
    (hd : ∀ a σ H, Pv xs.length a σ H → Q a σ H) : gTurns (Itt K p) g tt tb Q a0 σ0 H0 := by
  refine ⟨fun i m a σ H => m = xs.length - i ∧ i ≤ xs.length ∧ Pv i a σ H, ⟨xs.length, by simp, Nat.zero_le _, h0⟩, ?_⟩
  rintro i m a σ H ⟨rfl, hi, pv⟩
  have q := hl i a σ H hi pv
  by_cases hlt : i < xs.length
  · refine .inr ⟨⟨xs, xs[i], q, by simp [hlt]⟩, fun x H' y => ?_⟩
    obtain ⟨e, y⟩ := y
    subst e
    exact hs i x a σ _ (y xs q) pv
  · have e : i = xs.length := by omega
    subst e
    exact .inl ⟨⟨xs, q, Nat.le_refl _⟩, hd a σ H pv⟩
theorem g_pairs {n : Nat} {Ls : Hp → Prop} {xv : Nat → List V} (Pv : Nat → AS → St → Hp → Prop) (h0 : Pv 0 a0 σ0 H0) (hl : ∀ i a σ H, i ≤ n → Pv i a σ H → Ls H)
    (hs : ∀ i a σ H T, i < n → Pv i a σ H → H T = none → g (.ref T) σ (upd H T (.tup (xv i))) fun σ2 H2 => tt σ2 H2 fun b H3 => if b = true then tb a σ2 H3 (NxG n i Pv) else NxG n i Pv a σ2 H3)
    (hd : ∀ a σ H, Pv n a σ H → Q a σ H) : gTurns (Itp n Ls xv) g tt tb Q a0 σ0 H0 := by
  refine ⟨fun i m a σ H => m = n - i ∧ i ≤ n ∧ Pv i a σ H, ⟨n, by simp, Nat.zero_le _, h0⟩, ?_⟩
  rintro i m a σ H ⟨rfl, hi, pv⟩
  have q := hl i a σ H hi pv
  by_cases hlt : i < n
  · refine .inr ⟨⟨q, hlt⟩, fun x H' y => ?_⟩
    obtain ⟨T, e1, e2, e3⟩ := y
    subst e2 e3
    exact hs i a σ H T hlt pv e1
  · have e : i = n := by omega
    subst e
    exact .inl ⟨⟨q, rfl⟩, hd a σ H pv⟩
end
section
variable {X : Cx}
theorem call_range1' : CallR X (.type "range") (fun xs H Q => ∃ j : Int, xs = [.int j] ∧ 0 ≤ j ∧ j ≤ 1000 ∧ ∀ r, H r = none → Q (.ref r) (upd H r (.rng 0 j))) := by
  intro pins s σ H xs us Q I r h
  obtain ⟨j, rfl, h0, h1, q⟩ := h
  obtain ⟨u, rfl, t, rfl⟩ := vals1 r
  refine call_range_1 ?_
  exact ⟨.ref s.heap.objs.size, _, I.laid (a := s.heap.objs.size) (o := .rng 0 j) (fun b o e => Heap.get?_push_of_some _ e) (Nat.le_refl _) ⟨_, _, _, Heap.get?_push_size _ rfl⟩, rfl, q _ (I.hok.fresh (Nat.le_refl _))⟩
theorem ints_vals : ∀ {its : List Value} {n : Nat} (k : Nat), its.length = n → (∀ i v, its[i]? = some v → ∃ t, v = Value.int ((k + i : Nat) : Int) t) → Vals ((List.range' k n).map fun (i : Nat) => V.int (i : Int)) its
  | [], n, k, hl, _ => by
    have e : n = 0 := hl.symm
    subst e; exact .nil
  | v :: r, n, k, hl, h => by
    obtain ⟨m, rfl⟩ : ∃ m, n = m + 1 := ⟨n - 1, by simp at hl; omega⟩
    rw [List.range'_succ, List.map_cons]
    refine .cons ?_ (ints_vals (k + 1) (by simpa using hl) fun i v hv => ?_)
    · obtain ⟨t, e⟩ := h 0 v rfl
      exact ⟨t, by rw [e, Nat.add_zero]⟩
    · obtain ⟨t, e⟩ := h (i + 1) v (by simpa using hv)
      exact ⟨t, by rw [e, show k + (i + 1) = k + 1 + i by omega]⟩
theorem call_list_rng (hc : X.calm = true) : CallR X (.type "list") (fun xs H Q => ∃ (r : Addr) (j : Int), xs = [.ref r] ∧ H r = some (.rng 0 j) ∧ 0 ≤ j ∧ j ≤ 1000 ∧ ∀ l, H l = none → Q (.ref l) (upd H l (.lst ((List.range j.toNat).map fun (i : Nat) => V.int (i : Int))))) := by
  intro pins s σ H xs us Q I r h
  obtain ⟨p, j, rfl, hp, h0, h1, q⟩ := h
  obtain ⟨u, rfl, rx⟩ := vals1 r
  cases rx
  obtain ⟨t, u, v, e⟩ := I.hok p _ hp
  refine call_list_range (n := j.toNat) (a := 0) (b := j) (c := 1) (I.ok.hd hc) e (small_one (by decide) (by decide) (by omega) (by omega)) (by rw [rangeSize_one]; split <;> omega) (by omega) fun h' tk acc' c' hk hS hacc => ?_
  refine ⟨.ref s.heap.objs.size, _, I.laid (t' := tk) (a := s.heap.objs.size) (o := .lst ((List.range j.toNat).map fun (i : Nat) => V.int (i : Int))) (fun b o e => hk b o e) (Nat.le_refl _) ⟨?_, acc'.toList, c', ?_, by rw [Array.toArray_toList]; exact hS⟩, rfl, q _ (I.hok.fresh (Nat.le_refl _))⟩
  · rw [List.length_map, List.length_range]
    exact Nat.le_of_lt (small1000 (by omega))
  · rw [List.range_eq_range']
    refine ints_vals 0 (by rw [Array.length_toList]; exact hacc.1) fun i v hv => ?_
    obtain ⟨t, e⟩ := hacc.2 i v (by rw [← Array.getElem?_toList]; exact hv)
    exact ⟨t, by rw [e]; congr 1; omega⟩
end
end L2
namespace L2
open PySem PySem.Spec PyProof.Rows PySem.W
structure Ordr (lt : Nat → Nat → Bool) : Prop where
  asym : ∀ a b, lt a b = true → lt b a = false
  tr : ∀ a b c, lt b a = false → lt c b = false → lt c a = false
theorem Ordr.irr {lt : Nat → Nat → Bool} (o : Ordr lt) (a : Nat) : lt a a = false := by
  cases h : lt a a with
  | false => rfl
  | true => exact (o.asym a a h).symm.trans h ▸ rfl
def SPk (lt : Nat → Nat → Bool) (p : Array Nat) (k : Nat) : Prop := ∀ i j, i < j → j < k → lt (p.getD j 0) (p.getD i 0) = false
def DPk (lt : Nat → Nat → Bool) (p : Array Nat) (k : Nat) : Prop := ∀ i j, i < j → j < k → lt (p.getD i 0) (p.getD j 0) = false
def ERk (lt : Nat → Nat → Bool) (p : Array Nat) (a b : Nat) : Prop := ∀ i j, a ≤ i → i < b → a ≤ j → j < b → lt (p.getD i 0) (p.getD j 0) = false
theorem Gd.size {n : Nat} {p : Array Nat} (h : Gd n p) : p.size = n := by
  have := Array.Perm.size_eq h
  simpa using this
theorem rev_at {p : Array Nat} {i j : Nat} (hj : j ≤ p.size) (k : Nat) : (kas_rev p i j).getD k 0 = if i ≤ k ∧ k < j then p.getD (i + j - 1 - k) 0 else p.getD k 0 := by
  unfold kas_rev
  rw [Array.getD_eq_getD_getElem?, getElem?_mirror_all hj]
  split <;> rw [← Array.getD_eq_getD_getElem?]
theorem bub_at {p : Array Nat} {k l : Nat} (hk : k < p.size) (hl : l ≤ k) (i : Nat) : (bubble p k (k - l)).getD i 0 = if i = l then p.getD k 0 else if l < i ∧ i ≤ k then p.getD (i - 1) 0 else p.getD i 0 := by
  rw [Array.getD_eq_getD_getElem?, getElem?_bubble hk _ (by omega)]
  have e : k - (k - l) = l := by omega
  rw [e]
  by_cases e1 : i = l
  · rw [if_pos e1, if_pos e1, ← Array.getD_eq_getD_getElem?]
  · rw [if_neg e1, if_neg e1]
    by_cases e2 : l < i ∧ i ≤ k
    · rw [if_pos e2, if_pos e2, ← Array.getD_eq_getD_getElem?]
    · rw [if_neg e2, if_neg e2, ← Array.getD_eq_getD_getElem?]
section
variable {lt : Nat → Nat → Bool} (o : Ordr lt)
include o
theorem SPk.snoc {p : Array Nat} {k : Nat} (h : SPk lt p k) (h1 : 1 ≤ k) (hk : lt (p.getD k 0) (p.getD (k - 1) 0) = false) : SPk lt p (k + 1) := fun i j hij hj => by
  by_cases e : j = k
  · subst e
    by_cases e2 : i = j - 1
    · subst e2; exact hk
    · exact o.tr _ _ _ (h i (j - 1) (by omega) (by omega)) hk
  · exact h i j hij (by omega)
theorem DPk.snoc {p : Array Nat} {k : Nat} (h : DPk lt p k) (h1 : 1 ≤ k) (hk : lt (p.getD (k - 1) 0) (p.getD k 0) = false) : DPk lt p (k + 1) := fun i j hij hj => by
  by_cases e : j = k
  · subst e
    by_cases e2 : i = j - 1
    · subst e2; exact hk
    · exact o.tr _ _ _ hk (h i (j - 1) (by omega) (by omega))
  · exact h i j hij (by omega)
omit o in
theorem DPk.rev {p : Array Nat} {a b k : Nat} (h : DPk lt p k) (hb : b ≤ p.size) (hbk : b ≤ k) (e : ERk lt p a b) : DPk lt (kas_rev p a b) k := fun i j hij hj => by
  rw [rev_at hb, rev_at hb]
  split
  · split
    · exact e _ _ (by omega) (by omega) (by omega) (by omega)
    · exact h _ _ (by omega) (by omega)
  · split
    · exact h _ _ (by omega) (by omega)
    · exact h _ _ (by omega) (by omega)
omit o in
theorem DPk.turn {p : Array Nat} {k : Nat} (h : DPk lt p k) (hk : k ≤ p.size) : SPk lt (kas_rev p 0 k) k := fun i j hij hj => by
  rw [rev_at hk, rev_at hk, if_pos (by omega), if_pos (by omega)]
  exact h _ _ (by omega) (by omega)
variable {n : Nat} {cmp : Nat → Nat → (Bool → Shared → Prop) → Shared → Prop} {s : Shared} (hask : ∀ i j C, i < n → j < n → C (lt i j) s → cmp i j C s) (h0 : 0 < n)
include hask h0
theorem sk_asc {p : Array Nat} (g : Gd n p) {Q : Nat → Shared → Prop} (N : Nat) (hq : ∀ m, SPk lt p m → 1 ≤ m → m ≤ N → (m < N → lt (p.getD m 0) (p.getD (m - 1) 0) = true) → Q m s) : ∀ f m, 1 ≤ m → m + f = N → SPk lt p m → (kas_asc p f m).kasWp cmp Q s
  | 0, m, h1, hN, sp => hq m sp h1 (by omega) (fun z => by omega)
  | f + 1, m, h1, hN, sp => by
    refine hask _ _ _ (g.lt h0 _) (g.lt h0 _) ?_
    dsimp only
    split
    · rename_i c
      exact hq m sp h1 (by omega) fun _ => c
    · rename_i c
      exact sk_asc g N hq f (m + 1) (by omega) (by omega) (sp.snoc o h1 (by simpa using c))
theorem sk_desc {Q : Array Nat × Nat × Nat → Shared → Prop} (N : Nat) (hN : N ≤ n) (hq : ∀ p m q, Gd n p → 1 ≤ m → q + 1 ≤ m → m ≤ N → DPk lt p m → ERk lt p (m - (q + 1)) m → Q (p, m, q) s) : ∀ f p m q, Gd n p → 1 ≤ m → q + 1 ≤ m → m + f = N → DPk lt p m → ERk lt p (m - (q + 1)) m → (kas_desc f p m q).kasWp cmp Q s
  | 0, p, m, q, g, h1, h2, h3, dp, er => hq p m q g h1 h2 (by omega) dp er
  | f + 1, p, m, q, g, h1, h2, h3, dp, er => by
    have sz := g.size
    refine hask _ _ _ (g.lt h0 _) (g.lt h0 _) ?_
    dsimp only
    split
    · rename_i c
      have dp' := dp.snoc o h1 (o.asym _ _ c)
      have one : ∀ p' : Array Nat, ERk lt p' (m + 1 - (0 + 1)) (m + 1) := fun p' i j hi hi' hj hj' => by
        have e1 : i = m := by omega
        have e2 : j = m := by omega
        subst e1 e2
        exact o.irr _
      split
      · exact sk_desc N hN hq f _ (m + 1) 0 (g.rev _ _) (by omega) (by omega) (by omega) (dp'.rev (by omega) (by omega) er) (one _)
      · exact sk_desc N hN hq f p (m + 1) 0 g (by omega) (by omega) (by omega) dp' (one _)
    · rename_i c
      refine hask _ _ _ (g.lt h0 _) (g.lt h0 _) ?_
      dsimp only
      split
      · exact hq p m q g h1 h2 (by omega) dp er
      · rename_i d
        have c' : lt (p.getD m 0) (p.getD (m - 1) 0) = false := by simpa using c
        have d' : lt (p.getD (m - 1) 0) (p.getD m 0) = false := by simpa using d
        refine sk_desc N hN hq f p (m + 1) (q + 1) g (by omega) (by omega) (by omega) (dp.snoc o h1 d') fun i j hi hi' hj hj' => ?_
        by_cases ei : i = m
        · subst ei
          by_cases ej : j = i
          · subst ej; exact o.irr _
          · exact o.tr _ _ _ (er (i - 1) j (by omega) (by omega) (by omega) (by omega)) c'
        · by_cases ej : j = m
          · subst ej
            exact o.tr _ _ _ d' (er i (j - 1) (by omega) (by omega) (by omega) (by omega))
          · exact er i j (by omega) (by omega) (by omega) (by omega)
theorem sk_tail3 {p : Array Nat} (g : Gd n p) {Q : Nat × Array Nat → Shared → Prop} (N : Nat) (hN : N ≤ n) (hq : ∀ m p, Gd n p → SPk lt p m → 1 ≤ m → m ≤ N → Q (m, p) s) (m : Nat) (h1 : 1 ≤ m) (h2 : m ≤ N) (dp : DPk lt p m) : (kas_tail3 m N p).kasWp cmp Q s := by
  unfold kas_tail3
  rw [KasT.kasWp_bind]
  have sz := g.size
  exact sk_asc o hask h0 (g.rev _ _) N (fun m' sp a b _ => hq m' _ (g.rev _ _) sp a b) _ _ h1 (by omega) (dp.turn (by omega))
theorem sk_descPart {p : Array Nat} (g : Gd n p) {Q : Nat × Array Nat → Shared → Prop} (N : Nat) (hN : N ≤ n) (hq : ∀ m p, Gd n p → SPk lt p m → 1 ≤ m → m ≤ N → Q (m, p) s) (m : Nat) (h2 : m + 1 ≤ N) (dp : DPk lt p (m + 1)) : (kas_descPart m N p).kasWp cmp Q s := by
  unfold kas_descPart
  rw [KasT.kasWp_bind]
  refine sk_desc o hask h0 N hN (fun p' m' q g' a b c dp' er => ?_) _ _ _ _ g (by omega) (by omega) (by omega) dp fun i j hi hi' hj hj' => ?_
  · have sz := g'.size
    dsimp only
    split
    · exact sk_tail3 o hask h0 (g'.rev _ _) N hN hq _ a c (dp'.rev (by omega) (Nat.le_refl _) er)
    · exact sk_tail3 o hask h0 g' N hN hq _ a c dp'
  · have e1 : i = m := by omega
    have e2 : j = m := by omega
    subst e1 e2
    exact o.irr _
theorem sk_count {p : Array Nat} (g : Gd n p) {Q : Nat × Array Nat → Shared → Prop} (hq : ∀ m p, Gd n p → SPk lt p m → 1 ≤ m → m ≤ n → Q (m, p) s) : (kas_count n p).kasWp cmp Q s := by
  unfold kas_count
  rw [KasT.kasWp_bind]
  have sz := g.size
  refine sk_asc o hask h0 g n (fun m sp m1 mn st => ?_) _ _ (Nat.le_refl _) (by omega) (fun i j hij hj => by omega)
  split
  · exact hq _ _ g sp m1 mn
  · rename_i c
    have c' : m ≠ n := by simpa using c
    have lt1 := st (by omega)
    have ge1 := o.asym _ _ lt1
    split
    · refine hask _ _ _ (g.lt h0 _) (g.lt h0 _) ?_
      dsimp only
      split
      · exact hq _ _ g sp m1 mn
      · rename_i d
        have d' : lt (p.getD 0 0) (p.getD (m - 1) 0) = false := by simpa using d
        have lo : ∀ i, i < m → lt (p.getD (m - 1) 0) (p.getD i 0) = false := fun i hi => by
          by_cases e : i = m - 1
          · subst e; exact o.irr _
          · exact sp i (m - 1) (by omega) (by omega)
        have hi0 : ∀ j, j < m → lt (p.getD j 0) (p.getD 0 0) = false := fun j hj => by
          by_cases e : j = 0
          · subst e; exact o.irr _
          · exact sp 0 j (by omega) hj
        have er : ERk lt p 0 m := fun i j _ hi _ hj => o.tr _ _ _ (o.tr _ _ _ (lo j hj) d') (hi0 i hi)
        refine sk_descPart o hask h0 (g.rev _ _) n (Nat.le_refl _) hq m (by omega) fun i j hij hj => ?_
        rw [rev_at (by omega), rev_at (by omega)]
        by_cases ej : j = m
        · subst ej
          rw [if_pos (by omega), if_neg (by omega)]
          exact o.tr _ _ _ ge1 (er _ _ (by omega) (by omega) (by omega) (by omega))
        · rw [if_pos (by omega), if_pos (by omega)]
          exact er _ _ (by omega) (by omega) (by omega) (by omega)
    · have e : m = 1 := by omega
      subst e
      refine sk_descPart o hask h0 g n (Nat.le_refl _) hq 1 (by omega) fun i j hij hj => ?_
      have e1 : i = 0 := by omega
      have e2 : j = 1 := by omega
      subst e1 e2
      exact ge1
theorem sk_place {p : Array Nat} (g : Gd n p) {Q : Nat → Shared → Prop} (k : Nat) (sp : SPk lt p k) (hq : ∀ l, l ≤ k → (∀ i, i < l → lt (p.getD k 0) (p.getD i 0) = false) → (∀ i, l ≤ i → i < k → lt (p.getD i 0) (p.getD k 0) = false) → Q l s) :
    ∀ f l r, l ≤ r → r ≤ k → r - l ≤ f → (∀ i, i < l → lt (p.getD k 0) (p.getD i 0) = false) → (∀ i, r ≤ i → i < k → lt (p.getD i 0) (p.getD k 0) = false) → (kas_place p k f l r).kasWp cmp Q s
  | 0, l, r, h1, h2, h3, a, b => hq l (by omega) a fun i hi hk => b i (by omega) hk
  | f + 1, l, r, h1, h2, h3, a, b => by
    unfold kas_place
    split
    · exact hq l (by omega) a fun i hi hk => b i (by omega) hk
    · refine hask _ _ _ (g.lt h0 _) (g.lt h0 _) ?_
      dsimp only
      split
      · rename_i c
        have c' := o.asym _ _ c
        refine sk_place g k sp hq f l ((l + r) / 2) (by omega) (by omega) (by omega) a fun i hi hk => ?_
        by_cases e : i = (l + r) / 2
        · subst e; exact c'
        · exact o.tr _ _ _ c' (sp _ _ (by omega) hk)
      · rename_i c
        have c' : lt (p.getD k 0) (p.getD ((l + r) / 2) 0) = false := by simpa using c
        refine sk_place g k sp hq f ((l + r) / 2 + 1) r (by omega) h2 (by omega) (fun i hi => ?_) b
        by_cases e : i = (l + r) / 2
        · subst e; exact c'
        · exact o.tr _ _ _ (sp i ((l + r) / 2) (by omega) (by omega)) c'
theorem sk_bin {Q : Array Nat → Shared → Prop} (hq : ∀ p, Gd n p → SPk lt p n → Q p s) : ∀ f p k, Gd n p → k + f = n → SPk lt p k → (kas_bin f p k).kasWp cmp Q s
  | 0, p, k, g, h1, sp => hq p g (by rw [← h1]; exact sp)
  | f + 1, p, k, g, h1, sp => by
    unfold kas_bin
    rw [KasT.kasWp_bind]
    have sz := g.size
    refine sk_place o hask h0 g k sp (fun l hl a b => sk_bin hq f _ _ (g.bub _ _) (by omega) fun i j hij hj => ?_) k 0 k (by omega) (Nat.le_refl _) (by omega) (fun i hi => by omega) (fun i hi hk => by omega)
    rw [bub_at (by omega) hl, bub_at (by omega) hl]
    by_cases ej : j = l
    · rw [if_pos ej, if_neg (by omega), if_neg (by omega)]
      exact a i (by omega)
    · rw [if_neg ej]
      by_cases ej2 : l < j ∧ j ≤ k
      · rw [if_pos ej2]
        by_cases ei : i = l
        · rw [if_pos ei]
          exact b (j - 1) (by omega) (by omega)
        · rw [if_neg ei]
          split
          · exact sp _ _ (by omega) (by omega)
          · exact sp _ _ (by omega) (by omega)
      · rw [if_neg ej2, if_neg (by omega), if_neg (by omega)]
        exact sp _ _ hij (by omega)
theorem sk_sort {Q : Array Nat → Shared → Prop} (hq : ∀ p, Gd n p → SPk lt p n → Q p s) : (kas_sort n).kasWp cmp Q s := by
  unfold kas_sort
  rw [KasT.kasWp_bind]
  refine sk_count o hask h0 (Array.Perm.refl _) (fun m p g sp m1 mn => ?_)
  dsimp only
  have e : max m 1 = m := by omega
  rw [e]
  split
  · exact sk_bin o hask h0 hq _ _ _ g (by omega) sp
  · have e2 : m = n := by omega
    subst e2
    exact hq _ g sp
end
end L2
namespace L2
open PySem PySem.Spec PyProof.Rows PySem.W
theorem txTri : ∀ a b : List Nat, a < b ∨ a = b ∨ b < a
  | [], [] => .inr (.inl rfl)
  | [], _ :: _ => .inl (List.nil_lt_cons _ _)
  | _ :: _, [] => .inr (.inr (List.nil_lt_cons _ _))
  | x :: a, y :: b => by
    rcases Nat.lt_trichotomy x y with h | h | h
    · exact .inl (List.cons_lt_cons_iff.mpr (.inl h))
    · subst h
      rcases txTri a b with h | h | h
      · exact .inl (List.cons_lt_cons_iff.mpr (.inr ⟨rfl, h⟩))
      · exact .inr (.inl (by rw [h]))
      · exact .inr (.inr (List.cons_lt_cons_iff.mpr (.inr ⟨rfl, h⟩)))
    · exact .inr (.inr (List.cons_lt_cons_iff.mpr (.inl h)))
theorem txExt {x y : Str} (h : x.cps.toList = y.cps.toList) : x = y := by
  cases x; cases y
  simp only [Str.mk.injEq]
  exact Array.toList_inj.mp h
def sLtB (x y : Str) : Bool := decide (x.cps.toList < y.cps.toList)
theorem sLtB_irr (x : Str) : sLtB x x = false := decide_eq_false (List.lt_irrefl _)
theorem sLtB_trans {x y z : Str} (h : sLtB x y = true) (h' : sLtB y z = true) : sLtB x z = true := decide_eq_true (List.lt_trans (of_decide_eq_true h) (of_decide_eq_true h'))
theorem sLtB_tri (x y : Str) : sLtB x y = true ∨ x = y ∨ sLtB y x = true := by
  rcases txTri x.cps.toList y.cps.toList with h | h | h
  · exact .inl (decide_eq_true h)
  · exact .inr (.inl (txExt h))
  · exact .inr (.inr (decide_eq_true h))
def ltL : List Str → List Str → Bool
  | [], [] => false
  | [], _ :: _ => true
  | _ :: _, [] => false
  | x :: r, y :: t => if x = y then ltL r t else sLtB x y
theorem ltL_irr : ∀ a : List Str, ltL a a = false
  | [] => rfl
  | x :: r => by unfold ltL; rw [if_pos rfl]; exact ltL_irr r
theorem ltL_tri : ∀ a b : List Str, ltL a b = true ∨ a = b ∨ ltL b a = true
  | [], [] => .inr (.inl rfl)
  | [], _ :: _ => .inl rfl
  | _ :: _, [] => .inr (.inr rfl)
  | x :: r, y :: t => by
    unfold ltL
    by_cases e : x = y
    · subst e
      rw [if_pos rfl, if_pos rfl]
      rcases ltL_tri r t with h | h | h
      · exact .inl h
      · exact .inr (.inl (by rw [h]))
      · exact .inr (.inr h)
    · rw [if_neg e, if_neg (fun z => e z.symm)]
      rcases sLtB_tri x y with h | h | h
      · exact .inl h
      · exact absurd h e
      · exact .inr (.inr h)
theorem ltL_trans : ∀ a b c : List Str, ltL a b = true → ltL b c = true → ltL a c = true
  | [], _, [], h, h' => by
    rename_i b
    cases b with
    | nil => exact h
    | cons _ _ => cases h'
  | [], _, _ :: _, _, _ => rfl
  | _ :: _, [], _, h, _ => by cases h
  | _ :: _, _ :: _, [], _, h' => by cases h'
  | x :: r, y :: t, z :: u, h, h' => by
    unfold ltL at h h' ⊢
    by_cases e1 : x = y
    · subst e1
      rw [if_pos rfl] at h
      by_cases e2 : x = z
      · subst e2
        rw [if_pos rfl] at h' ⊢
        exact ltL_trans r t u h h'
      · rw [if_neg e2] at h' ⊢
        exact h'
    · rw [if_neg e1] at h
      by_cases e2 : y = z
      · subst e2
        rw [if_neg e1]
        exact h
      · rw [if_neg e2] at h'
        have q := sLtB_trans h h'
        have e3 : ¬ x = z := fun e => by rw [e, sLtB_irr] at q; cases q
        rw [if_neg e3]
        exact q
theorem ltL_asym (a b : List Str) (h : ltL a b = true) : ltL b a = false := by
  cases q : ltL b a with
  | false => rfl
  | true => have := ltL_trans a b a h q; rw [ltL_irr] at this; cases this
def ltI (ts : List (List Str)) (i j : Nat) : Bool := ltL (ts.getD i []) (ts.getD j [])
theorem ltI_ord (ts : List (List Str)) : Ordr (ltI ts) := ⟨fun a b h => ltL_asym _ _ h, fun a b c h h' => by
  have h1 : ltL (ts.getD b []) (ts.getD a []) = false := h
  have h2 : ltL (ts.getD c []) (ts.getD b []) = false := h'
  show ltL (ts.getD c []) (ts.getD a []) = false
  rcases ltL_tri (ts.getD a []) (ts.getD b []) with q | q | q
  · rcases ltL_tri (ts.getD b []) (ts.getD c []) with r | r | r
    · exact ltL_asym _ _ (ltL_trans _ _ _ q r)
    · rw [← r]; exact h1
    · rw [h2] at r; cases r
  · rw [q]; exact h2
  · rw [h1] at q; cases q⟩
theorem getD_range (vs : List Value) : (List.range vs.length).map (fun i => vs.getD i Value.none) = vs := by
  refine List.ext_getElem? fun i => ?_
  by_cases hi : i < vs.length
  · rw [List.getElem?_map, List.getElem?_range hi, List.getElem?_eq_getElem hi]
    show some (vs.getD i Value.none) = _
    rw [List.getD_eq_getElem?_getD, List.getElem?_eq_getElem hi]; rfl
  · rw [List.getElem?_eq_none (by simp; omega), List.getElem?_eq_none (by omega)]
theorem katlex_ex {P : Program} {w : World} {A : Around} {s : Shared} {b fin : Bool} {Q : Bool → Shared → Prop} : ∀ {vs us : List Value} {x y : List Str} (i : Nat), StrsAre vs x → StrsAre us y → Q (ltL x y) s → fin = decide (x.length < y.length) → KatLex P w A b fin Q (vs.zip us) i s
  | _, _, _, _, i, .nil, .nil, hQ, hf => by rw [hf]; exact hQ
  | _, _, _, _, i, .nil, .cons _ _ _, hQ, hf => by rw [hf]; exact hQ
  | _, _, _, _, i, .cons _ _ _, .nil, hQ, hf => by rw [hf]; exact hQ
  | _, _, _, _, i, .cons p t r, .cons q u r', hQ, hf => by
    refine kat_cons (wpAny_eqBool_str (kat_go (fun e => kat_yes (katlex_ex (i + 1) r r' ?_ ?_)) fun e => kat_no ?_))
    · have e' := of_decide_eq_true e
      unfold ltL at hQ
      rw [if_pos e'] at hQ
      exact hQ
    · rw [hf]
      simp
    · have e' := of_decide_eq_false e
      unfold ltL at hQ
      rw [if_neg e'] at hQ
      cases hb : (b && i == 0) with
      | true => exact strKind_oneLt P w A _ s _ _ _ _ rfl rfl hQ
      | false => exact kat_one _ _ (lt_str hQ)
section
variable {P : Program} {w : World} {A : Around} {E : Value → Shared → Prop} {s : Shared}
theorem tups_atO {h h' : Heap} {a : Addr} (k : ∀ b o, b ≠ a → h.get? b = some o → h'.get? b = some o) : ∀ {vs : List Value} {ts : List (List Str)} {i : Nat}, Paired (TupS h) vs ts → (∀ v ∈ vs, v ≠ .ref a) → i < vs.length → ∃ (b : Addr) (its : Array Value), IsTup h' b its ∧ vs.getD i Value.none = .ref b ∧ StrsAre its.toList (ts.getD i [])
  | _, _, i, .nil, _, hi => absurd hi (Nat.not_lt_zero _)
  | _, _, 0, @Paired.cons _ _ _ v t l1 l2 hh tt, hn, _ => by
    obtain ⟨b, its, rfl, ⟨o, g, c, n, d⟩, st, ne⟩ := hh
    have nb : b ≠ a := fun z => hn _ List.mem_cons_self (by rw [z])
    exact ⟨b, its, ⟨o, k b o nb g, c, n, d⟩, rfl, st⟩
  | _, _, i + 1, @Paired.cons _ _ _ v t l1 l2 hh tt, hn, hi => tups_atO (i := i) k tt (fun u hu => hn u (List.mem_cons_of_mem _ hu)) (by simpa using hi)
theorem sort_tupsO {a : Addr} {vs : List Value} {ts : List (List Str)} {n : Nat} {R : PySem.Fin → Shared → Prop} (ho : s.heap.get? a = some (seqObj "list" vs.toArray n)) (ht : Paired (TupS s.heap) vs ts) (h64 : vs.length < 64) (hna : ∀ v ∈ vs, v ≠ .ref a)
    (h : ∀ (out : List Value) (p : Array Nat), out.Perm vs → Gd vs.length p → SPk (ltI ts) p vs.length → out = p.toList.map (fun i => vs.getD i Value.none) → R (.done (.ret .none)) { s with heap := sortedHeap s.heap a vs out.toArray }) : wpAny (model P w) A (Builtin.«list.sort» ⟨[.ref a], []⟩) R E s := by
  rw [list_sort_plain]
  have ha : a < s.heap.objs.size := Heap.lt_size ho
  refine wpAny_bind (listItems_at ho rfl (wpAny_bind (listUpdate_at ho rfl ?_ (by rw [List.size_toArray, sizeLine_eq]; omega) (Nat.zero_le _))))
  obtain ⟨e1, ho1⟩ : ∃ e1, (s.heap.update a (Obj.mapSeq fun _ => #[])).get? a = some (seqObj "list" #[] e1) := ⟨_, get?_update_seq ho (fun _ => #[])⟩
  refine wpAny_bind (seqEpoch_at ho1 rfl (wpAny_bind (wpAny_newTuple ?_ (by show vs.length ≤ _; rw [sizeLine_eq]; omega))))
  refine wpAny_bind (wpAny_newList ?_ (Nat.zero_le _))
  refine wpAny_holding ?_
  have ho6 : (((s.heap.update a (Obj.mapSeq fun _ => #[])).push (seqObj "tuple" vs.toArray 0)).push (seqObj "list" #[] 0)).get? a = some (seqObj "list" #[] e1) := Heap.get?_push_of_some _ (Heap.get?_push_of_some _ ho1)
  have keep : ∀ b o, b ≠ a → s.heap.get? b = some o → (((s.heap.update a (Obj.mapSeq fun _ => #[])).push (seqObj "tuple" vs.toArray 0)).push (seqObj "list" #[] 0)).get? b = some o := fun b o hb e => by
    refine Heap.get?_push_of_some _ (Heap.get?_push_of_some _ ?_)
    rw [Heap.get?_update_ne _ _ _ _ hb]; exact e
  show wpAny (model P w) A _ R E { s with heap := ((s.heap.update a (Obj.mapSeq fun _ => #[])).push (seqObj "tuple" vs.toArray 0)).push (seqObj "list" #[] 0) }
  dsimp only
  have fin : ∀ (st' : SortSt) (out : List Value), (arrOf st').map (·.2) = out.toArray → failedOf st' = none → out.Perm vs → (∃ p, Gd vs.length p ∧ SPk (ltI ts) p vs.length ∧ out = p.toList.map (fun i => vs.getD i Value.none)) → wpAny (model P w) A (do
      let touched := (← seqEpoch a) != e1
      Builtin.List.listUpdate (.ref a) fun _ => (arrOf st').map (·.2)
      if let some e := failedOf st' then rule "list.sort.comparison-raised"; throw e
      if touched then rule "list.sort.modified"; raiseError "ValueError" "list modified during sort"
      ret .none) R E { s with heap := ((s.heap.update a (Obj.mapSeq fun _ => #[])).push (seqObj "tuple" vs.toArray 0)).push (seqObj "list" #[] 0) } := by
    intro st' out e hf hp ⟨p, hg, hsp, ep⟩
    refine wpAny_bind (seqEpoch_at ho6 rfl ?_)
    refine wpAny_bind (listUpdate_at ho6 rfl ?_ (Nat.zero_le _) (by rw [e, List.size_toArray, hp.length_eq, sizeLine_eq]; omega))
    rw [hf]
    simp only [bne_self_eq_false, Bool.false_eq_true, if_false]
    rw [e]
    exact wpAny_pure (h out p hp hg hsp ep)
  by_cases h2 : vs.toArray.size < 2
  · rw [if_pos h2, if_pos h2]
    refine wpAny_bind (wpAny_pure ?_)
    rw [StateT.run_pure]
    refine wpAny_bind (wpAny_pure (fin _ vs ?_ rfl (List.Perm.refl _) ⟨Rng vs.length, Array.Perm.refl _, fun i j hij hj => absurd hj (by rw [List.size_toArray] at h2; omega), (getD_range vs).symm⟩))
    show (vs.toArray.zip vs.toArray).map (·.2) = vs.toArray
    apply Array.toList_inj.mp
    rw [Array.toList_map, Array.toList_zip]
    exact List.map_snd_zip (Nat.le_refl _)
  · rw [if_neg h2, if_neg h2]
    have hl2 : 2 ≤ vs.length := by rw [List.size_toArray] at h2; omega
    obtain ⟨fs, kt, fl, fa⟩ := tups_firsts (a := a) keep ht hna
    refine wpAny_bind (kat_kind (T := .type "str") kt (by omega) (fun v hv => ?_) (by decide) ?_)
    · obtain ⟨x, t, rfl⟩ := fa v hv
      exact .now
    refine wpAny_bind (wpAny_mono (kat_run (ks := vs) (Q := fun st' s' => s' = { s with heap := ((s.heap.update a (Obj.mapSeq fun _ => #[])).push (seqObj "tuple" vs.toArray 0)).push (seqObj "list" #[] 0) } ∧ ∃ out : List Value, (arrOf st').map (·.2) = out.toArray ∧ failedOf st' = none ∧ out.Perm vs ∧ ∃ p, Gd vs.length p ∧ SPk (ltI ts) p vs.length ∧ out = p.toList.map (fun i => vs.getD i Value.none)) (G := fun p s' => s' = { s with heap := ((s.heap.update a (Obj.mapSeq fun _ => #[])).push (seqObj "tuple" vs.toArray 0)).push (seqObj "list" #[] 0) } ∧ Gd vs.length p ∧ SPk (ltI ts) p vs.length) rfl hl2 h64 (fun p st' s' a1 a2 a3 a4 => ?_) ?_) ?_ fun _ _ e => e)
    · obtain ⟨rfl, g, sp⟩ := a4
      refine ⟨rfl, _, kat_snds rfl a2, a3, ?_, p, g, sp, rfl⟩
      have q := (Array.perm_iff_toList_perm.mp g).map fun i => vs.getD i Value.none
      exact q.trans (List.Perm.of_eq (getD_range vs))
    · refine sk_sort (ltI_ord ts) (fun i j C hi hj hC => ?_) (by omega) fun p g sp => ⟨rfl, g, sp⟩
      obtain ⟨x1, y1, z1, v1, w1⟩ := tups_atO keep ht hna hi
      obtain ⟨x2, y2, z2, v2, w2⟩ := tups_atO keep ht hna hj
      show wpAny _ _ (keyLt' _ (vs.getD i Value.none) (vs.getD j Value.none)) C _ _
      rw [v1, v2]
      obtain ⟨o1, g1, c1, n1, d1⟩ := z1
      obtain ⟨o2, g2, c2, n2, d2⟩ := z2
      have l1 : y1.size = (ts.getD i []).length := by rw [← w1.strs]; simp
      have l2 : y2.size = (ts.getD j []).length := by rw [← w2.strs]; simp
      exact kat_lt g1 d1 g2 d2 (katlex_ex 0 w1 w2 hC (by rw [l1, l2]))
    · rintro ⟨⟨⟩, st'⟩ s' ⟨rfl, out, q1, q2, q3, q4⟩
      exact fin st' out q1 q2 q3 q4
end
end L2
namespace L2
open PySem PySem.Spec PyProof.Rows PySem.W
theorem gd_mem {n : Nat} {o : Array Nat} (g : Gd n o) {i : Nat} (hi : i ∈ o.toList) : i < n := by
  have := (Array.perm_iff_toList_perm.mp g).mem_iff.mp hi
  simpa using this
theorem gd_len {n : Nat} {o : Array Nat} (g : Gd n o) : o.toList.length = n := by
  have := g.size
  simpa using this
theorem outs_refs {as : List Addr} {l : List Nat} (h : ∀ i ∈ l, i < as.length) : l.map (fun i => (as.map Value.ref).getD i Value.none) = (l.map fun i => as.getD i 0).map Value.ref := by
  rw [List.map_map]
  refine List.map_congr_left fun i hi => ?_
  have := h i hi
  show (as.map Value.ref).getD i Value.none = Value.ref (as.getD i 0)
  rw [List.getD_eq_getElem?_getD, List.getD_eq_getElem?_getD, List.getElem?_map, List.getElem?_eq_getElem this]; rfl
section
variable {X : Cx}
theorem call_sortedTO : CallR X (.builtin "sorted") (fun xs H Q => ∃ (p : Addr) (as : List Addr) (ts : List (List Str)), xs = [.ref p] ∧ SqL X.K H p (as.map V.ref) ∧ Paired (fun a t => SqT X.K H a (t.map V.str) ∧ t ≠ []) as ts ∧ as.length < 64 ∧ ∀ (r : Addr) (o : Array Nat), H r = none → Gd as.length o → SPk (ltI ts) o as.length → Q (.ref r) (upd H r (.lst ((o.toList.map fun i => as.getD i 0).map V.ref)))) := by
  intro pins s σ H xs us Q I r h
  obtain ⟨p, as, ts, rfl, hq, ht, h64, q⟩ := h
  obtain ⟨u, rfl, rx⟩ := vals1 r
  cases rx
  obtain ⟨its, rv, pl, hz⟩ := I.list hq
  have ei := refs_of rv
  subst ei
  refine Calls.call_function_entry kind_sorted plain_sorted entry_sorted (args_sorted1 _) ?_
  unfold Builtin.«sorted»
  refine wpAny_bind (m := checkCount "sorted" 1 1 _) (wpAny_pure (wpAny_bind (collect_list pl.isList ?_ (by rw [List.length_map, sizeLine_eq]; omega))))
  refine wpAny_bind (wpAny_newList ?_ (by rw [List.length_map, sizeLine_eq]; omega))
  have hsz : ((s.heap.push (seqObj "list" #[] 0)).update s.heap.objs.size (Obj.mapSeq (· ++ (as.map Value.ref).toArray))).objs.size = s.heap.objs.size + 1 := by rw [Heap.size_update, size_push']
  have hoL : (((s.heap.push (seqObj "list" #[] 0)).update s.heap.objs.size (Obj.mapSeq (· ++ (as.map Value.ref).toArray))).push (seqObj "list" (as.map Value.ref).toArray 0)).get? (s.heap.objs.size + 1) = some (seqObj "list" (as.map Value.ref).toArray 0) := by
    rw [← hsz]; exact Heap.get?_push_size _ rfl
  have keep : ∀ b o, s.heap.get? b = some o → (((s.heap.push (seqObj "list" #[] 0)).update s.heap.objs.size (Obj.mapSeq (· ++ (as.map Value.ref).toArray))).push (seqObj "list" (as.map Value.ref).toArray 0)).get? b = some o := fun b o e => by
    have hlt : b < s.heap.objs.size := Heap.lt_size e
    rw [Heap.get?_push_ne _ _ _ (by rw [hsz]; exact Nat.ne_of_lt (Nat.lt_succ_of_lt hlt)), Heap.get?_update_ne _ _ _ _ (Nat.ne_of_lt hlt), Heap.get?_push_ne _ _ _ (Nat.ne_of_lt hlt)]
    exact e
  show wpAny _ _ _ _ _ { s with heap := ((s.heap.push (seqObj "list" #[] 0)).update s.heap.objs.size (Obj.mapSeq (· ++ (as.map Value.ref).toArray))).push (seqObj "list" (as.map Value.ref).toArray 0) }
  rw [hsz]
  have tp := tups_mk (h' := ((s.heap.push (seqObj "list" #[] 0)).update s.heap.objs.size (Obj.mapSeq (· ++ (as.map Value.ref).toArray))).push (seqObj "list" (as.map Value.ref).toArray 0)) I keep ht
  refine wpAny_bind (wpAny_holding (wpAny_call_entry slot_list_sort ⟨_, hoL, rfl⟩ entry_list_sort (sort_tupsO hoL tp (by rw [List.length_map]; exact h64) (fun v hv z => ?_) fun out o hp hg hsp eo => ⟨_, rfl, ?_⟩) (args_list_sort _)))
  · obtain ⟨b, hb, e⟩ := List.mem_map.mp hv
    rw [← e] at z
    injection z with z
    have lt := tups_lt I ht b hb
    exact absurd lt (by rw [z]; exact Nat.not_lt_of_le (Nat.le_succ _))
  rw [List.length_map] at hg hsp
  rw [outs_refs fun i hi => gd_mem hg hi] at eo
  subst eo
  have nz : H (s.heap.objs.size + 1) = none := I.hok.fresh (Nat.le_succ _)
  obtain ⟨e, he⟩ := sortedAll_at s.heap (as.map Value.ref) ((o.toList.map fun i => as.getD i 0).map Value.ref).toArray
  refine wpAny_pure ⟨_, rfl, .ref (s.heap.objs.size + 1), _, I.laid (t' := s.toks) (a := s.heap.objs.size + 1) (o := .lst ((o.toList.map fun i => as.getD i 0).map V.ref)) (h' := sortedAll s.heap (as.map Value.ref) ((o.toList.map fun i => as.getD i 0).map Value.ref).toArray) (fun b o eb => sortedAll_old eb) (Nat.le_succ _) ⟨?_, (o.toList.map fun i => as.getD i 0).map Value.ref, e, vals_refs _, he⟩, rfl, q _ o nz hg hsp⟩
  rw [List.length_map, List.length_map, gd_len hg]
  exact Nat.le_of_lt (small1000 (by omega))
end
end L2
namespace L2
open PySem PySem.Spec PyProof.Rows PySem.W
open AutoSeq1 (wpAny_loadPart')
open MeetsSeq MeetsSeq2 MeetsSeq3 SeqRoads2
end L2
namespace L2
open PySem PySem.Spec PyProof.Rows PySem.W
section
variable {P : Program} {w : World} {A : Around} {E : Value → Shared → Prop} {s : Shared}
end
section
variable {X : Cx}
end
end L2
namespace L2
open PySem PySem.Spec PyProof.Rows
section
variable {P : Program} {w : World} {target iter target2 iter2 elt : Expr} {ifs ifs2 : List Expr} {scope : Scope} {pos : Pos}
end
end L2
namespace L2
open PySem PySem.Spec PyProof.Rows PySem.W
end L2
namespace L2
open PySem PySem.Spec PyProof.Rows
section
variable {X : Cx}
end
end L2
namespace L2
open PySem PySem.Spec PyProof.Rows
section
variable {X : Cx}
def iEnum (K : PySem.W.Frag) (ta : TA) : TI := fun σ H R => ta σ H fun vs H1 => ∃ (a : Addr) (xs : List V), vs = [.ref a] ∧ SqL K H1 a xs ∧ R (Itp xs.length (fun H => SqL K H a xs) (fun i => [.int (i : Nat), xs.getD i .non])) H1
theorem boot_enum : bootBuiltins "enumerate" = some (.type "enumerate") := by decide +kernel
theorem pi_enum {a : Expr} {ta : TA} {p pos tpos : Pos} {elts : List Expr} {ct : Nat} (hg : Gl X "enumerate") (hm : X.mg "enumerate" = none) (ha : PA X [a] ta) (hs : starEach [a] X.env = [(false, eval a X.env)] := by rfl) :
    PI X (.Tuple elts ct tpos) (.Call (.Name "enumerate" p) [a] [] pos) (iEnum X.K ta) := by
  intro pins s σ H R I h
  refine Call_ (ld_blt I hg hm boot_enum (PyProof.Rows.callWith_type1 (thn (ha pos pins s σ H _ I h) fun us s1 ⟨vs, H1, I1, r1, q1⟩ => ?_) (by rw [hs]; rfl) (by rfl)))
  obtain ⟨l, xs, e, hx, q⟩ := q1
  subst e
  obtain ⟨u, rfl, rx⟩ := vals1 r1
  cases rx
  obtain ⟨it1, rv1, pl1, hz1⟩ := I1.list hx
  have b1 : l < s1.heap.objs.size := by obtain ⟨o, n, e, _⟩ := pl1; exact Heap.lt_size e
  refine call_enumerate_list pl1.isList fun h1 z1 z2 z3 z7 => ?_
  refine wpAny_pyIter_enum z1 ?_
  have hfp : ∀ b ∈ [s1.heap.objs.size + 1, s1.heap.objs.size], s1.heap.objs.size ≤ b := fun b hb => by
    simp only [List.mem_cons, List.not_mem_nil, or_false] at hb
    rcases hb with rfl | rfl
    · exact Nat.le_add_right _ _
    · exact Nat.le_refl _
  refine ⟨s1.heap.objs.size + 1, [s1.heap.objs.size + 1, s1.heap.objs.size],
    fun i h => (∃ old, IsEnum h (s1.heap.objs.size + 1) s1.heap.objs.size i old) ∧ h.IsListIter s1.heap.objs.size l i,
    _, H1, rfl, I1.kept (t' := s1.toks) z7,
    turn_walkT (s1.heap.objs.size + 1) _ [s1.heap.objs.size + 1, s1.heap.objs.size, l] [s1.heap.objs.size + 1, s1.heap.objs.size] _ _ _ _ (by simp) (fun b hb => hb) (fun i h st b hb => ?_) (fun i h h' st k => ?_) (fun i => by show 2 ≤ sizeLine; decide) ?_ (fun A i s' Q E st hQ => by
      obtain ⟨⟨old, he⟩, _⟩ := st
      exact wpAny_pyIter_enum he hQ),
    ⟨⟨_, z1⟩, z2⟩, fun b hb => I1.fpOk (hfp b hb) (I1.hok.fresh (hfp b hb)), q⟩
  · obtain ⟨⟨old, a1⟩, ⟨o4, a4, c4, d4⟩⟩ := st
    simp only [List.mem_cons, List.not_mem_nil, or_false] at hb
    rcases hb with rfl | rfl
    · exact ⟨_, a1, fun v z => by cases z⟩
    · exact ⟨_, a4, fun v z => by rw [d4] at z; cases z⟩
  · obtain ⟨⟨old, a1⟩, a4⟩ := st
    exact ⟨⟨old, k _ (by simp) _ a1⟩, a4.at fun o e => k _ (by simp) o e⟩
  · intro X' hP hw hK hc pins' s' σ' H' I' hL
    rw [← hK] at hL
    obtain ⟨jt1, sv1, ql1, _⟩ := I'.list hL
    have m1 := sv1.length
    have ne1 : l ≠ s1.heap.objs.size := Nat.ne_of_lt b1
    have Wz := WalksT.enumerateD (A := X'.A) (Draws.list (prog := X.prog) (w := X.w) (A := X'.A.in1) (I'.ok.hd hc) s1.heap.objs.size l ne1 jt1.toArray) (s1.heap.objs.size + 1) (Nat.succ_ne_self _) (fun z => by
      simp only [List.mem_cons, List.not_mem_nil, or_false] at z
      rcases z with z | z
      · exact Nat.succ_ne_self _ z
      · exact absurd b1 (by rw [← z]; exact Nat.not_lt_of_le (Nat.le_succ _))) (by simp)
    rw [show jt1.toArray.size = xs.length by show jt1.length = _; rw [m1]] at Wz
    refine ⟨_, _, _, Wz, fun i st => ?_, fun i h st => ?_, fun i vals pv => ?_⟩
    · exact ⟨st.1, st.2, ql1.isList⟩
    · exact ⟨st.1, st.2.1⟩
    · obtain ⟨t, x, e1, rfl⟩ := pv
      have e1 : jt1[i]? = some x := by simpa using e1
      have c1 : i < xs.length := by rw [m1]; exact (List.getElem?_eq_some_iff.mp e1).1
      obtain ⟨u, d1, d2⟩ := sv1.get (List.getElem?_eq_getElem c1)
      rw [e1] at d1
      cases d1
      show Vals [.int (i : Nat), xs.getD i .non] [.int i t, x]
      rw [List.getD_eq_getElem?_getD, List.getElem?_eq_getElem c1]
      exact .cons ⟨t, rfl⟩ (.cons d2 .nil)
end
end L2
namespace L2
open PySem PySem.Spec PyProof.Rows
section
variable {X : Cx}
end
end L2
namespace L2
open PySem PySem.Spec PyProof.Rows PySem.SeqAt PySem.MeetsSeq
section
variable {X : Cx}
end
end L2
namespace L2
open PySem PySem.Spec PyProof.Rows
theorem fmc {α β : Type} {f g : α → Option β} : ∀ {l : List α}, (∀ i ∈ l, f i = g i) → l.filterMap f = l.filterMap g
  | [], _ => rfl
  | a :: l, h => by rw [List.filterMap_cons, List.filterMap_cons, h a List.mem_cons_self, fmc fun i hi => h i (List.mem_cons_of_mem _ hi)]
theorem slicePick_rev (its : List Value) : slicePick its.toArray none none (some (-1)) = its.reverse.toArray := by
  unfold slicePick
  have h1 : sliceBounds none none (some (-1)) its.toArray.size = ((its.length : Int) - 1, -1, -1) := by
    unfold sliceBounds
    simp
  rw [h1]
  have h2 : sliceRange ((its.length : Int) - 1) (-1) (-1) = (List.range its.length).map fun k => its.length - 1 - k := by
    unfold sliceRange
    have hc : (if (-1 : Int) > 0 then (if (its.length : Int) - 1 < -1 then (-1 - ((its.length : Int) - 1) + -1 - 1) / -1 else 0) else (if (its.length : Int) - 1 > -1 then ((its.length : Int) - 1 - -1 - -1 - 1) / (- -1) else 0)).toNat = its.length := by
      rw [if_neg (by decide)]
      by_cases h : (its.length : Int) - 1 > -1
      · rw [if_pos h]
        have : ((its.length : Int) - 1 - -1 - -1 - 1) / (- -1) = its.length := by
          rw [show (- -1 : Int) = 1 by decide, Int.ediv_one]; omega
        rw [this]; exact Int.toNat_natCast _
      · rw [if_neg h]; omega
    show List.map _ (List.range _) = _
    rw [hc]
    refine List.map_congr_left fun k hk => ?_
    have := List.mem_range.mp hk
    omega
  show (List.filterMap _ (sliceRange ((its.length : Int) - 1) (-1) (-1))).toArray = _
  rw [h2, List.filterMap_map]
  congr 1
  refine List.ext_getElem? fun i => ?_
  have e : (List.range its.length).filterMap ((fun x => its.toArray[x]?) ∘ fun k => its.length - 1 - k) = (List.range its.length).filterMap fun k => its.reverse[k]? := by
    refine fmc fun k hk => ?_
    have hk' := List.mem_range.mp hk
    show its.toArray[its.length - 1 - k]? = its.reverse[k]?
    rw [List.getElem?_toArray, List.getElem?_reverse hk']
  rw [e]
  have : (List.range its.length).filterMap (fun k => its.reverse[k]?) = its.reverse := by
    have g : ∀ l : List Value, (List.range l.length).filterMap (fun k => l[k]?) = l := by
      intro l
      induction l with
      | nil => rfl
      | cons a l ih =>
        rw [List.length_cons, List.range_succ_eq_map, List.filterMap_cons, List.filterMap_map]
        show a :: _ = _
        congr 1
    have := g its.reverse
    rw [List.length_reverse] at this
    exact this
  rw [this]
section
variable {X : Cx} {e st : Expr} {te ts : TE} {p2 pos : Pos}
def tRev (K : PySem.W.Frag) (te ts : TE) : TE := fun σ H Q => te σ H fun x H1 => ts σ H1 fun y H2 => ∃ a xs, x = .ref a ∧ y = .int (-1) ∧ SqL K H2 a xs ∧ ∀ p, H2 p = none → Q (.ref p) (upd H2 p (.lst xs.reverse))
theorem vals_rev : ∀ {xs : List V} {us : List Value}, Vals xs us → Vals xs.reverse us.reverse
  | _, _, .nil => .nil
  | _, _, .cons h t => by
    rw [List.reverse_cons, List.reverse_cons]
    exact (vals_rev t).append (.cons h .nil)
theorem pe_rev (he : PE X e te) (hs : PE X st ts) : PE X (.Subscript e (.Slice none none (some st) p2) pos) (tRev X.K te ts) := by
  intro pins s σ H Q I h
  refine Subscript_ (thn (he pins s σ H _ I h) fun v s1 ⟨x, H1, I1, r1, q1⟩ => ?_)
  refine wpAny_Slice ?_
  rw [evalPart_none]
  refine wpAny_pure (wpAny_pure ?_)
  show wpAny _ _ (eval st X.env) _ _ _
  refine thn (hs pins s1 σ H1 _ I1 q1) fun w s2 ⟨y, H2, I2, r2, q2⟩ => ?_
  obtain ⟨a, xs, rfl, rfl, hx, q⟩ := q2
  cases r1
  obtain ⟨t, rfl⟩ := r2
  have I4 : Inv X pins σ H2 { s2 with heap := s2.heap.push { cls := .type "slice", data := .fields #[.none, .none, .int (-1) t] } } := I2.kept (t' := s2.toks) fun b ob q => Heap.get?_push_of_some _ q
  obtain ⟨its, r, ht, hz⟩ := I4.list hx
  have hlen := r.length
  have hg : wpAny (model X.prog X.w) X.A (getItem (.ref a) (.ref s2.heap.objs.size)) (EP X pins σ Q) X.xe { s2 with heap := s2.heap.push { cls := .type "slice", data := .fields #[.none, .none, .int (-1) t] } } := by
    refine wpAny_getItem_list_slice ht.isList (Heap.IsSliceOf.new ..) .none .none (.int (-1) t) (by decide) ?_ (by rw [List.size_toArray] <;> omega)
    rw [slicePick_rev]
    refine ⟨.ref _, _, I4.laid (t' := s2.toks) (o := .lst xs.reverse) (fun b ob q => Heap.get?_push_of_some _ q) (Nat.le_refl _) ?_, rfl, q _ (I4.hok.fresh (Nat.le_refl _))⟩
    exact ⟨by rw [List.length_reverse]; exact hz, _, 0, vals_rev r, Heap.get?_push_size _ rfl⟩
  show wpAny (model X.prog X.w) X.A (subscriptTail e (.Slice none none (some st) p2) (.ref a) (.ref s2.heap.objs.size)) (EP X pins σ Q) X.xe { s2 with heap := s2.heap.push { cls := .type "slice", data := .fields #[.none, .none, .int (-1) t] } }
  exact tail_any (ops := [.ref a, .ref s2.heap.objs.size]) ht.isList.typeIs slot_list_getitem.lookup hg (by with_unfolding_all rfl)
end
end L2
namespace L2
open PySem PySem.Spec PyProof.Rows
def Fly (H : Hp) (h0 h : Heap) (e : Addr) (cls : Value) : Prop :=
  h0.get? e = none ∧ H e = none ∧ ∃ (a0 : Value) (oe : Obj) (vs : Array Value) (T : Addr) (oT : Obj) (ts : Array Value), h.get? e = some oe ∧ (oe.cls = cls ∧ vs[0]? = some a0) ∧ oe.data = .fields vs ∧ vs[1]? = some (.ref T) ∧ T ≠ e ∧ h0.get? T = none ∧ H T = none ∧ h.get? T = some oT ∧ oT.data = .fields ts ∧ ts[3]? = some .none
def CXe (P : Program) (w : World) : CXT := fun outer H s E e s' => ∃ (ea : Addr) (cls : Value) (H' : Hp), e = .ref ea ∧ s'.os = s.os ∧ AllBare s'.gens ∧ Un (frs outer) [] H H' s.heap s'.heap ∧ HOk P w H' s'.heap ∧ Fly H' s.heap s'.heap ea cls ∧ E cls none H'
theorem ok_some {P : Program} {w : World} {H : Hp} {h : Heap} {a : Addr} : ∀ {o : HO}, ObjOk P w H h a o → ∃ ob, h.get? a = some ob
  | .lst _, x => by obtain ⟨_, _, _, _, e⟩ := x; exact ⟨_, e⟩
  | .tup _, x => by obtain ⟨_, _, _, p⟩ := x; obtain ⟨ob, e, _⟩ := p; exact ⟨_, e⟩
  | .dK _, x => by obtain ⟨_, _, _, _, ob, _, _, e, _⟩ := x; exact ⟨_, e⟩
  | .dT _, x => by obtain ⟨_, _, _, _, ob, _, _, e, _⟩ := x; exact ⟨_, e⟩
  | .set _ _, x => by obtain ⟨ob, _, _, _, e, _⟩ := x; exact ⟨_, e⟩
  | .ins _ _ _, x => by obtain ⟨_, _, _, e, _⟩ := x; exact ⟨_, e⟩
  | .own _, x => x
  | .xd _, x => by obtain ⟨_, ⟨ob, _, _, e, _⟩, _⟩ := x; exact ⟨_, e⟩
  | .rng _ _, x => by obtain ⟨_, _, _, e⟩ := x; exact ⟨_, e⟩
  | .frz _ _, x => ⟨_, x.1⟩
  | .tbl _, x => ⟨_, x⟩
  | .met _ _, x => ⟨_, x⟩
  | .ext _, x => x.2.1
theorem funs_hid {h b1 b2 : Heap} : ∀ {l : List Env}, h.FunFrames b1 l → (∀ a ∈ frs l, b2.get? a = none) → h.FunFrames b2 l
  | [], _, _ => trivial
  | env :: r, hl, hn => by
    obtain ⟨k, ⟨L, o, f, _, ho, hd⟩, hr⟩ := hl
    have m : frs (env :: r) = L :: frs r := by unfold frs; rw [List.filterMap_cons, f]
    rw [m] at hn
    exact ⟨k, ⟨L, o, f, hn L List.mem_cons_self, ho, hd⟩, funs_hid hr fun a ha => hn a (List.mem_cons_of_mem _ ha)⟩
section
variable {P : Program} {w : World} {K : PySem.W.Frag} {mg : Str → Option Value} {base : Heap} {N : List Str} {qual : Str} {scope : Scope} {f : Addr} {cd : Value} {A : Around} {outer : List Env} {s : Shared} {H : Hp} {E : XK}
abbrev cxE (P : Program) (w : World) (K : PySem.W.Frag) (mg : Str → Option Value) (base : Heap) (N : List Str) (qual : Str) (scope : Scope) (f : Addr) (cd : Value) (A : Around) (outer : List Env) (s : Shared) (H : Hp) (E : XK) : Cx := cxOf (CXe P w) P w K mg base N qual scope f cd A outer s H E
theorem left_cx {pins : List (Addr × Obj)} {σ : St} {H' : Hp} {s' : Shared} {ea : Addr} {cls a0 : Value} {h'' : Heap} (J : Inv (cxE P w K mg base N qual scope f cd A outer s H E) pins σ H' s') (He : H' ea = none) (Hs : s.heap.get? ea = none)
    (ex : List Addr) (hex : ∀ t ∈ ex, H' t = none ∧ s.heap.get? t = none) (lf : Heap.LeftW (PySem.W.hideAll s'.heap (ea :: (ex ++ frs (cxE P w K mg base N qual scope f cd A outer s H E).stack))) (cxE P w K mg base N qual scope f cd A outer s H E).stack ea cls a0 s'.heap h'') (q : E cls none H') :
    CXe P w outer H s E (.ref ea) { s' with heap := h'' } := by
  obtain ⟨l1, l2, ⟨oe, vs, T, oT, ts, t1, t2, t3, t4, t5, t6, t7, t8, t9⟩, l4⟩ := lf
  have fr := J.stack
  have frf := J.stkFree
  have kp : ∀ b o, s'.heap.get? b = some o → b ≠ ea → b ∉ ex → b ∉ frs (cxE P w K mg base N qual scope f cd A outer s H E).stack → h''.get? b = some o := fun b o e n1 n2 n3 => l1 b o (PySem.W.hideAll_get _ e (by
    rw [List.mem_cons, List.mem_append]
    rintro (z | z | z)
    · exact n1 z
    · exact n2 z
    · exact n3 z))
  have old : ∀ b o, s.heap.get? b = some o → b ≠ ea ∧ b ∉ ex ∧ b ≠ (envOfC qual scope s.heap.objs.size f cd).locals := fun b o e => by
    refine ⟨fun z => ?_, fun z => ?_, fun z => ?_⟩
    · rw [z, Hs] at e; cases e
    · rw [(hex b z).2] at e; cases e
    · have lt := Heap.lt_size e
      rw [z] at lt
      exact absurd (Nat.lt_of_lt_of_le lt J.ok.above) (Nat.lt_irrefl _)
  have stk : ∀ b, b ∈ frs (cxE P w K mg base N qual scope f cd A outer s H E).stack → b = (envOfC qual scope s.heap.objs.size f cd).locals ∨ b ∈ frs outer := fun b hb => by
    have : frs (cxE P w K mg base N qual scope f cd A outer s H E).stack = (envOfC qual scope s.heap.objs.size f cd).locals :: frs outer := rfl
    rw [this] at hb
    exact List.mem_cons.mp hb
  have stk' : ∀ b, b ∈ frs outer → b ∈ frs (cxE P w K mg base N qual scope f cd A outer s H E).stack := fun b hb => List.mem_cons_of_mem _ hb
  have sl : ∀ b o, s'.heap.get? b = some o → b ∈ frs (cxE P w K mg base N qual scope f cd A outer s H E).stack → ∃ z, h''.get? b = some { o with slots := z } := fun b o e hb => by
    obtain ⟨_, o', ho', hd⟩ := fr.mem hb
    rw [e] at ho'; cases ho'
    exact l4 b o e hd
  have trk : ∀ b u, H' b = some u → b ≠ ea ∧ b ∉ ex ∧ b ∉ frs (cxE P w K mg base N qual scope f cd A outer s H E).stack := fun b u e => by
    refine ⟨fun z => ?_, fun z => ?_, fun z => ?_⟩
    · rw [z, He] at e; cases e
    · rw [(hex b z).1] at e; cases e
    · rw [frf b z] at e; cases e
  refine ⟨ea, cls, H', rfl, J.os, J.bare, ⟨fun b o e n hb hx => ?_, fun b o e n hb hx => ?_, J.base.free, fun b o e hx => ?_, J.base.tups, J.base.frzs, J.base.tbls⟩, fun a o e => ?_, ⟨Hs, He, a0, oe, vs, T, oT, ts, t1, t2, t3, t4, t6, ?_, ?_, t7, t8, t9⟩, q⟩
  · obtain ⟨o1, o2, o3⟩ := old b o e
    exact kp b o (J.base.keep b o e n hb hx) o1 o2 fun z => (stk b z).elim o3 hb
  · obtain ⟨z, e1⟩ := J.base.slot b o e n hb hx
    obtain ⟨z2, e2⟩ := sl b _ e1 (stk' b hb)
    exact ⟨z2, e2⟩
  · obtain ⟨o1, o2, o3⟩ := old b o e
    obtain ⟨o', e1⟩ := J.base.there b o e hx
    by_cases hb : b ∈ frs (cxE P w K mg base N qual scope f cd A outer s H E).stack
    · obtain ⟨z, e2⟩ := sl b o' e1 hb
      exact ⟨_, e2⟩
    · exact ⟨o', kp b o' e1 o1 o2 hb⟩
  · refine (J.hok a o e).stay (fun b u hb q' => ?_) (fun b z => z) fun b xs z => z
    have hb' : ∃ v, H' b = some v := by
      rcases hb with z | z
      · rw [z]; exact ⟨_, e⟩
      · exact ⟨_, z⟩
    obtain ⟨v, hv⟩ := hb'
    obtain ⟨n1, n2, n3⟩ := trk b v hv
    exact kp b u q' n1 n2 n3
  all_goals
    have cs : s'.heap.get? T = none ∨ T ∈ ex := by
      cases z : s'.heap.get? T with
      | none => exact .inl rfl
      | some o =>
        refine .inr ?_
        by_cases h2 : T ∈ ex
        · exact h2
        · exfalso
          by_cases h3 : T ∈ frs (cxE P w K mg base N qual scope f cd A outer s H E).stack
          · obtain ⟨y, e2⟩ := sl T o z h3
            rw [t7] at e2
            obtain ⟨_, o', ho', hd⟩ := fr.mem h3
            rw [z] at ho'; cases ho'
            cases e2
            exact hd _ t8
          · have := PySem.W.hideAll_get (ea :: (ex ++ frs (cxE P w K mg base N qual scope f cd A outer s H E).stack)) z (by
              rw [List.mem_cons, List.mem_append]
              rintro (y | y | y)
              · exact t6 y
              · exact h2 y
              · exact h3 y)
            rw [t5] at this; cases this
  · rcases cs with z | z
    · cases y : s.heap.get? T with
      | none => rfl
      | some o =>
        obtain ⟨o', e1⟩ := J.base.there T o y (fun z => by cases z)
        rw [z] at e1; cases e1
    · exact (hex T z).2
  · rcases cs with z | z
    · cases y : H' T with
      | none => rfl
      | some u =>
        exfalso
        obtain ⟨o, ho⟩ := ok_some (J.hok T u y)
        rw [z] at ho; cases ho
    · exact (hex T z).1
end
end L2
namespace L2
open PySem PySem.Spec PyProof.Rows
section
variable {P : Program} {w : World} {K : PySem.W.Frag} {mg : Str → Option Value} {base : Heap} {N : List Str} {qual : Str} {scope : Scope} {f : Addr} {cd : Value} {A : Around} {outer : List Env} {s : Shared} {H : Hp} {E : XK}
theorem raise_xe {pins : List (Addr × Obj)} {σ : St} {H' : Hp} {s2 : Shared} {h' : Heap} {ea : Addr} {cls : Value} {args : List Value} (J : Inv (cxE P w K mg base N qual scope f cd A outer s H E) pins σ H' s2) (hm : Heap.MadeExcOf s2.heap h' ea cls args) (q : E cls none H') :
    (cxE P w K mg base N qual scope f cd A outer s H E).xe (.ref ea) { s2 with heap := h' } := by
  have J3 : Inv (cxE P w K mg base N qual scope f cd A outer s H E) pins σ H' { s2 with heap := h' } := J.kept (t' := s2.toks) hm.keeps
  have He : H' ea = none := by
    cases y : H' ea with
    | none => rfl
    | some u =>
      obtain ⟨o, ho⟩ := ok_some (J.hok ea u y)
      rw [hm.new] at ho; cases ho
  have Hs : s.heap.get? ea = none := by
    cases y : s.heap.get? ea with
    | none => rfl
    | some o =>
      obtain ⟨o', e1⟩ := J.base.there ea o y (fun z => by cases z)
      rw [hm.new] at e1; cases e1
  obtain ⟨t, ht, _, _⟩ := hm.there
  show wpAny (model P w) _ (leaving (envOfC qual scope s.heap.objs.size f cd) (.ref ea)) _ _ _
  refine wpAny_leaving_firstW (a0 := .ref t) (base := PySem.W.hideAll h' (ea :: ([] ++ frs (cxE P w K mg base N qual scope f cd A outer s H E).stack))) (outer := outer) (s := { s2 with heap := h' }) J3.ok.frames (funs_hid J3.stack fun a ha => PySem.W.hideAll_none _ (List.mem_cons_of_mem _ ha)) rfl ht (fun b o z => PySem.W.of_hideAll _ z) (PySem.W.hideAll_none _ List.mem_cons_self) rfl rfl rfl fun h'' lf => ?_
  exact left_cx J3 He Hs [] (fun t ht => by cases ht) lf q
def tRaise (C : Addr) (E : XK) (t : TA) : TS := fun D σ H => t σ H fun vs H1 => vs.length ≤ sizeLine ∧ E (.ref C) none H1
theorem ps_raise {x : Str} {C : Addr} {e : Expr} {es : List Expr} {t : TA} {np cpos pos : Pos} {bmB bmN : List Value} {newId Bn inN B nid initId : String} (hh : A.handled = none) (Fn : ExcBaseFacts Bn newId inN bmN) (hBn : bmB.contains (.type Bn) = true) (F : ExcBaseFacts B nid initId bmB) (O : OwnCls x C bmB newId mg base)
    (ha : PA (cxE P w K mg base N qual scope f cd A outer s H E) (e :: es) t) (hg : Gl (cxE P w K mg base N qual scope f cd A outer s H E) x) (hb : bmB.contains (.type "BaseException") = true) (hdb : (x == ("__debug__" : Str)) = false := by decide)
    (he : starEach (e :: es) (cxE P w K mg base N qual scope f cd A outer s H E).env = (false, eval e (cxE P w K mg base N qual scope f cd A outer s H E).env) :: starEach es (cxE P w K mg base N qual scope f cd A outer s H E).env := by rfl) (hpl : (backTo cpos (starEach (e :: es) (cxE P w K mg base N qual scope f cd A outer s H E).env)).any (·.1) = false := by rfl) :
    PS (cxE P w K mg base N qual scope f cd A outer s H E) (.Raise (some (.Call (.Name x np) (e :: es) [] cpos)) none pos) (tRaise C E t) := by
  intro pins s1 σ H1 D I h
  obtain ⟨bm, N', nm, q, bs, hdct, sn, sub, ab, col, dd, k0, k1, k2, k3, k5, mN, hC, hN, hni, T⟩ := O.2
  refine wpAny_Raise_call_subU (C := C) (nm := nm) (q := q) (N := N') (bs := bs) (bm := bm) (hdct := hdct) (sn := sn) (sub := sub) (ab := ab) (col := col) (dd := dd) (k0 := k0) (k1 := k1) (k2 := k2) (k3 := k3) (k5 := k5) Fn hBn F (T.hasType hb) hh hpl hni ?_
  refine ld_glob I hg O.1 ⟨rfl, ?_⟩ hdb
  rw [he]
  refine Calls.evalArgs_plain ?_
  have := ha cpos pins s1 σ H1 _ I h
  rw [he] at this
  refine thn this fun us s2 ⟨vs, H2, I2, rv, hl, hE⟩ => ⟨rfl, by rw [← rv.length]; exact hl, I2.bk _ _ hC, hN.keeps I2.bk, T.keeps I2.bk, fun h' ea hm => raise_xe I2 hm hE⟩
theorem Fun.okE {x : Str} {st : Stmt} {fd : FuncData} {ps : List Str} {k : Nat} {sp : Sp} (F : Fun K x qual st f fd) (S : FnScope N ps (defScope st)) (len : ∀ vs H Q E, sp vs H Q E → vs.length = ps.length)
    (hbody : ∀ (cdv : Value) (A : Around) (outer : List Env) (s : Shared) (H : Hp) (vs : List V) (Q : VK) (E : XK), Room k (A.deeper (envOfC qual (defScope st) s.heap.objs.size f cdv)) → A.handled = none → sp vs H Q E →
      ∃ t, PSs (cxE P w K mg base N qual (defScope st) f cdv A outer s H E) (defBody st) t ∧ t { nx := fun _ H' => Q .non H', rt := Q } (start N vs) H) : FnOk P w K mg base (CXe P w) (k + 1) f fd ps sp := by
  obtain ⟨oc, od, kV, doc, pm, an, cdv, ct, osl, rfl, lk, hcd⟩ := F.ex
  exact fn_of lk hcd S len fun A outer s H vs Q E hr hsp => hbody cdv A outer s H vs Q E hr hr.hd hsp
end
end L2
namespace L2
open PySem PySem.Spec PyProof.Rows
section
variable {X : Cx} {pins : List (Addr × Obj)} {σ : St} {H : Hp} {s : Shared} {h' : Heap}
theorem Inv.move {A : Around} {calm : Bool} {xe : Value → Shared → Prop} {pn pins' : List (Addr × Obj)} (I : Inv X pins σ H s) (hp : ∀ p ∈ pn ++ pins', p ∈ X.pn ++ pins) (hA : A.frames = X.A.frames) (hc : calm = true → A.handled = none) :
    Inv { X with A := A, calm := calm, xe := xe, pn := pn } pins' σ H s :=
  ⟨⟨I.ok.mod, I.ok.kind, I.ok.glob, I.ok.blt, I.ok.above, I.ok.inj, I.ok.has, I.ok.cab, hc, hA.trans I.ok.frames, I.ok.stk, I.ok.exf, I.ok.bs, I.ok.bsz, I.ok.noex, I.ok.exfs, I.ok.funs, I.ok.frf⟩, I.os, I.bare, I.base, I.loc, I.cell, I.free, I.freeC, fun p h => I.pin p (hp p h), I.hok, I.len⟩
structure New (X : Cx) (pins : List (Addr × Obj)) (b : Addr) : Prop where
  s0 : X.s₀.heap.get? b = none
  loc : b ≠ X.env.locals
  cel : ∀ x c, X.env.cells.lookup x = some c → c ≠ b
  pin : ∀ p ∈ X.pn ++ pins, p.1 ≠ b
theorem Inv.new_of {b : Addr} (I : Inv X pins σ H s) (hex : X.ex = []) (e : s.heap.get? b = none) : New X pins b := by
  refine ⟨?_, fun z => ?_, fun x c hc z => ?_, fun p hp z => ?_⟩
  · cases y : X.s₀.heap.get? b with
    | none => rfl
    | some o =>
      obtain ⟨o', e1⟩ := I.base.there b o y (by rw [hex]; intro z; cases z)
      rw [e] at e1; cases e1
  · obtain ⟨m, ⟨o, _, _, ho, _⟩, _⟩ := I.loc
    rw [← z, e] at ho; cases ho
  · obtain ⟨v, o, ho, _⟩ := I.cell x c hc
    rw [z, e] at ho; cases ho
  · have := (I.pin p hp).1
    rw [z, e] at this; cases this
theorem Inv.exs {ch : List Addr} (I : Inv X pins σ H s) (hn : ∀ b ∈ ch, New X pins b) : Inv { X with ex := X.ex ++ ch } pins σ H s :=
  ⟨⟨I.ok.mod, I.ok.kind, I.ok.glob, I.ok.blt, I.ok.above, I.ok.inj, I.ok.has, I.ok.cab, I.ok.hd, I.ok.frames, I.ok.stk, fun b hb => (List.mem_append.mp hb).elim (I.ok.exf b) fun z => ⟨(hn b z).loc, (hn b z).cel⟩, I.ok.bs, I.ok.bsz,
    fun b o e hb => (List.mem_append.mp hb).elim (I.ok.noex b o e) fun z => (by
      have := (I.ok.bs b o e).1
      rw [(hn b z).s0] at this; cases this),
    fun b hb hf => (List.mem_append.mp hb).elim (fun z => I.ok.exfs b z hf) fun z => (by
      obtain ⟨_, o, ho, _⟩ := I.ok.funs.mem hf
      rw [(hn b z).s0] at ho; cases ho), I.ok.funs, I.ok.frf⟩, I.os, I.bare,
    ⟨fun b o e n hb hx => I.base.keep b o e n hb fun z => hx (List.mem_append_left _ z), fun b o e n hb hx => I.base.slot b o e n hb fun z => hx (List.mem_append_left _ z), fun b o e n hx => I.base.free b o e n fun z => hx (List.mem_append_left _ z), fun b o e hx => I.base.there b o e fun z => hx (List.mem_append_left _ z), I.base.tups, I.base.frzs, I.base.tbls⟩,
    I.loc, I.cell, I.free, I.freeC, I.pin, I.hok, I.len⟩
theorem Inv.unexs {ch : List Addr} (ok : X.Ok) (I : Inv { X with ex := X.ex ++ ch } pins σ H s) (hn : ∀ b ∈ ch, New X pins b) : Inv X pins σ H s := by
  have nx : ∀ b o, X.s₀.heap.get? b = some o → b ∉ X.ex → b ∉ X.ex ++ ch := fun b o e hx hb => (List.mem_append.mp hb).elim hx fun z => by rw [(hn b z).s0] at e; cases e
  exact ⟨ok, I.os, I.bare, ⟨fun b o e n hb hx => I.base.keep b o e n hb (nx b o e hx), fun b o e n hb hx => I.base.slot b o e n hb (nx b o e hx), fun b o e n hx => I.base.free b o e n (nx b o e hx), fun b o e hx => I.base.there b o e (nx b o e hx), I.base.tups, I.base.frzs, I.base.tbls⟩,
    I.loc, I.cell, I.free, I.freeC, I.pin, I.hok, I.len⟩
theorem Inv.flown {ch : List Addr} (J : Inv X pins σ H s) (hn : ∀ b ∈ ch, New X pins b) (hH : ∀ b ∈ ch, H b = none) (st : (PySem.W.hideAll s.heap (ch ++ frs X.stack)).StaysIn h') (up : s.heap.UpToSlots h') : Inv X pins σ H { s with heap := h' } := by
  have kp : ∀ b o, s.heap.get? b = some o → b ∉ ch → b ∉ frs X.stack → h'.get? b = some o := fun b o e n1 n2 => st b o (PySem.W.hideAll_get _ e fun z => (List.mem_append.mp z).elim n1 n2)
  have sl : ∀ b o, s.heap.get? b = some o → b ∈ frs X.stack → ∃ z, h'.get? b = some { o with slots := z } := fun b o e hb => by
    obtain ⟨_, o', ho', hd⟩ := J.stack.mem hb
    rw [e] at ho'; cases ho'
    exact up b o e hd
  have u : Un (frs X.stack) ch H H s.heap h' := ⟨fun b o e _ n1 n2 => kp b o e n2 n1, fun b o e _ hb _ => sl b o e hb, fun _ _ _ n _ => n, fun b o e n2 => by
    by_cases hb : b ∈ frs X.stack
    · obtain ⟨z, e2⟩ := sl b o e hb
      exact ⟨_, e2⟩
    · exact ⟨o, kp b o e n2 hb⟩, fun _ _ e => e, fun _ _ _ e => e, fun b ps e => ⟨#[], by rw [e]; simp⟩⟩
  have hok : HOk X.prog X.w H h' := fun a o e => by
    refine (J.hok a o e).stay (fun b u hb q => ?_) (fun _ z => z) fun _ _ z => z
    have hv : ∃ v, H b = some v := hb.elim (fun z => ⟨o, by rw [z]; exact e⟩) fun z => ⟨_, z⟩
    obtain ⟨v, hv⟩ := hv
    exact kp b u q (fun z => by rw [hH b z] at hv; cases hv) fun z => by rw [J.stkFree b z] at hv; cases hv
  exact Inv.unexs J.ok ((J.exs hn).call' (s' := { s with heap := h' }) (ch := ch) rfl u hok J.bare fun b hb => ⟨.inl (List.mem_append_right _ hb), (hn b hb).loc, (hn b hb).cel, (hn b hb).pin⟩) hn
def exO (ea : Addr) (cls : Value) : HO := .ext fun h => ∃ o, h.get? ea = some o ∧ o.cls = cls
theorem Inv.adopt {ea : Addr} {cls : Value} (J : Inv X pins σ H s) (n : New X pins ea) (he : H ea = none) (ho : ∃ o, s.heap.get? ea = some o ∧ o.cls = cls) : Inv X pins σ (upd H ea (exO ea cls)) s := by
  have ne : ∀ b o, H b = some o → b ≠ ea := fun b o e z => by rw [z, he] at e; cases e
  have n0 : ∀ b o, X.s₀.heap.get? b = some o → b ≠ ea := fun b o e z => by rw [z, n.s0] at e; cases e
  refine ⟨J.ok, J.os, J.bare, ⟨J.base.keep, J.base.slot, fun b o e nn hx => ?_, J.base.there, fun b xs e => ?_, fun b o u e => ?_, fun b ps e => ?_⟩, J.loc, J.cell, ?_, fun x c e => ?_, fun p hp => ?_, fun a o e => ?_, J.len⟩
  · rw [upd_ne (n0 b o e)]; exact J.base.free b o e nn hx
  · rw [upd_ne (ne b _ (J.base.tups b xs e))]; exact J.base.tups b xs e
  · rw [upd_ne (ne b _ (J.base.frzs b o u e))]; exact J.base.frzs b o u e
  · obtain ⟨m, e1⟩ := J.base.tbls b ps e
    exact ⟨m, by rw [upd_ne (ne b _ e1)]; exact e1⟩
  · rw [upd_ne (Ne.symm n.loc)]; exact J.free
  · rw [upd_ne (n.cel x c e)]; exact J.freeC x c e
  · obtain ⟨a1, a2, a3⟩ := J.pin p hp
    exact ⟨a1, by rw [upd_ne (n.pin p hp)]; exact a2, a3⟩
  · by_cases z : a = ea
    · subst z
      rw [upd_same] at e
      cases e
      obtain ⟨o, h1, h2⟩ := ho
      refine ⟨⟨o, h1, h2⟩, ⟨o, h1⟩, fun g1 g2 ⟨o', q1, q2⟩ k => ⟨o', k o' q1, q2⟩⟩
    · rw [upd_ne z] at e
      refine (J.hok a o e).stay (fun _ _ _ q => q) (fun b q => ?_) fun b xs q => ?_
      · rw [upd_ne (ne b _ q)]; exact q
      · rw [upd_ne (ne b _ q)]; exact q
theorem name_goes {M : Model} {A : Around} {E : Value → Shared → Prop} {i : Nat} {n : Str} {pos : Pos} {Q : Unit → Shared → Prop} (I : Inv X pins σ H s) (hN : X.N.Nodup) (hi : X.N[i]? = some n) (hx : X.env.scope.names.lookup n = some .local)
    (h : ∀ s', Inv X pins (σ.set i none) H s' → Q () s') : wpAny M A (do bindName X.env n .none; unbindBehindTheSuite X.env n pos) Q E s := by
  have hcls : (X.env.scope.kind == .class || (X.env.scope.kind == .module && X.env.locals != X.env.globals)) = false := by rw [I.ok.kind]; rfl
  refine wpAny_bind (wpAny_bindName (store_ok I hN hi (.inl hx) (v := .non) (u := .none) rfl (fun s1 J => ?_) (.inr hx)))
  have hiσ : i < σ.length := by rw [I.len]; exact (List.getElem?_eq_some_iff.mp hi).1
  obtain ⟨m, hn, hl⟩ := id J.loc
  have hv : ∃ v, m n = some v := by
    obtain ⟨u, _, l⟩ := hl i n .non hi (List.getElem?_set_self hiσ) (.inl hx)
    rcases l with ⟨_, e⟩ | ⟨k, _⟩
    · exact ⟨u, e⟩
    · have k0 : X.env.kindOf n = some .local := hx
      rcases k with k | k <;> (rw [k0] at k; cases k)
  obtain ⟨v, hv⟩ := hv
  unfold unbindBehindTheSuite
  refine wpAny_onRaise (wpAny_unbindName_local hx hn hv hcls fun h' u hn' hs => ?_)
  have eq : ∀ b, b ≠ X.env.locals → h'.get? b = s1.heap.get? b := fun b hb => hs.2 b hb
  obtain ⟨oL, _, _, hoL, _⟩ := id hn'
  have nL : ∀ b o, X.s₀.heap.get? b = some o → b ≠ X.env.locals := fun b o e => Nat.ne_of_lt (Nat.lt_of_lt_of_le (Heap.lt_size e) J.ok.above)
  refine h _ ⟨J.ok, J.os, J.bare, ⟨fun b o e n hb hx => (eq b (nL b o e)).trans (J.base.keep b o e n hb hx), fun b o e n hb hx => ?_, J.base.free, fun b o e hx => ?_, J.base.tups, J.base.frzs, J.base.tbls⟩, ⟨_, hn', fun j y v' e1 e2 e3 => ?_⟩, fun y c e => ?_, J.free, J.freeC, fun p hp => ?_, fun a o e => ?_, by rw [List.length_set]; exact I.len⟩
  · obtain ⟨z, e1⟩ := J.base.slot b o e n hb hx
    exact ⟨z, (eq b (nL b o e)).trans e1⟩
  · obtain ⟨o', e1⟩ := J.base.there b o e hx
    exact ⟨o', (eq b (nL b o e)).trans e1⟩
  · by_cases hj : j = i
    · subst hj
      rw [List.getElem?_set_self hiσ] at e2
      cases e2
    · rw [List.getElem?_set_ne (Ne.symm hj)] at e2
      obtain ⟨u', r', q⟩ := hl j y v' e1 (by rw [List.getElem?_set_ne (Ne.symm hj)]; exact e2) e3
      refine ⟨u', r', ?_⟩
      rcases q with ⟨k, e⟩ | ⟨k, c, e, o, ho, hd⟩
      · refine .inl ⟨k, ?_⟩
        show (if y = n then u else m y) = some u'
        rw [if_neg (fun (z : y = n) => hj (nodup_ix hN (by rw [z] at e1; exact e1) hi))]
        exact e
      · exact .inr ⟨k, c, e, o, (eq c (J.cne y c e)).trans ho, hd⟩
  · obtain ⟨v, o, ho, hd⟩ := J.cell y c e
    exact ⟨v, o, (eq c (J.cne y c e)).trans ho, hd⟩
  · obtain ⟨a1, a2, a3, a4⟩ := J.pin p hp
    exact ⟨(eq p.1 a3).trans a1, a2, a3, a4⟩
  · refine (J.hok a o e).stay (fun b u hb q => (eq b fun z => ?_).trans q) (fun _ z => z) fun _ _ z => z
    have hv : ∃ v, H b = some v := hb.elim (fun z => ⟨o, by rw [z]; exact e⟩) fun z => ⟨_, z⟩
    obtain ⟨v, hv⟩ := hv
    rw [z, J.free] at hv; cases hv
end
def tTry (N : Nat) (K : PySem.W.Frag) (i : Nat) (C : Addr) (E : XK) (tb ts : TS) : TS := fun D σ H => tb D σ H ∧ ∀ (cls : Value) (H' : Hp) (ea : Addr) (σ' : St), E cls none H' → H' ea = none → σ'.length = N →
  PySem.W.exmOne K cls (.ref C) = some true ∧ ts { nx := fun σ2 H2 => D.nx (σ2.set i none) H2, rt := D.rt, bk := fun σ2 H2 => D.bk (σ2.set i none) H2, ct := fun σ2 H2 => D.ct (σ2.set i none) H2 } (σ'.set i (some (.ref ea))) (upd H' ea (exO ea cls))
theorem ps_try {X : Cx} {body suite : List Stmt} {b0 : Stmt} {C : Addr} {cn n : Str} {cp hp pos : Pos} {E : XK} {tb ts : TS} {i : Nat}
    (hb : ∀ xe pn, Passes (CXe X.prog X.w) { X with xe := xe, pn := pn } E → PSs { X with xe := xe, pn := pn } body tb) (hg : Gl X cn) (hm : X.mg cn = some (.ref C))
    (hs : ∀ e, PSs { X with A := X.A.mark (some e), calm := false, xe := fun _ _ => False } (b0 :: suite) ts) (nd : X.N.Nodup) (hi : X.N[i]? = some n) (hx : X.env.scope.names.lookup n = some .local)
    (hex : X.ex = []) (hst : X.stack = X.env :: X.outer) (hfr : X.env.frame = some X.env.locals) (hd : (cn == ("__debug__" : Str)) = false := by decide) :
    PS X (.Try body [.ExceptHandler (some (.Name cn cp)) (some n) (b0 :: suite) hp] [] [] pos) (tTry X.N.length X.K i C E tb ts) := by
  intro pins s σ H D I ⟨h1, h2⟩
  refine wpAny_Try_except ?_
  have B := hb (fun e s' => ∃ pins' σ' H1 s1, Inv { X with pn := X.pn ++ pins } pins' σ' H1 s1 ∧ CXe X.prog X.w X.stack H1 s1 E e s') (X.pn ++ pins) (fun pins' σ' H1 s1 e s' I' c => ⟨pins', σ', H1, s1, I'.move (fun _ z => z) rfl I'.ok.hd, c⟩)
    [] s σ H D (I.move (fun p hp => by rw [List.append_nil] at hp; exact hp) rfl I.ok.hd) h1
  have back : ∀ {xe : Value → Shared → Prop} {pins' : List (Addr × Obj)} {σ' : St} {H' : Hp} {s' : Shared}, Inv { X with xe := xe, pn := X.pn ++ pins } pins' σ' H' s' → Inv X pins σ' H' s' := fun J => J.move (fun p hp => List.mem_append_left _ hp) rfl J.ok.hd
  refine wpAny_mono B (fun f s1 q => ?_) fun e s1 q => ?_
  · cases f with
    | next => obtain ⟨σ', H', J, q⟩ := q; exact wpAny_execs_nil ⟨σ', H', back J, q⟩
    | brk => obtain ⟨σ', H', J, q⟩ := q; exact ⟨σ', H', back J, q⟩
    | cont => obtain ⟨σ', H', J, q⟩ := q; exact ⟨σ', H', back J, q⟩
    | ret u => obtain ⟨v, σ', H', J, r, q⟩ := q; exact ⟨v, σ', H', back J, r, q⟩
  obtain ⟨pins', σ', H1, s0, I1, ea, cls, H', rfl, os, bare, un, hok, ⟨f1, f2, a0, oe, vs, T, oT, ts', t1, t2, t3, t4, t5, t6, t7, t8, t9, t10⟩, qE⟩ := q
  have I0 : Inv X pins σ' H1 s0 := back (xe := X.xe) I1
  have J : Inv X pins σ' H' s1 := I0.call' (ch := []) os un hok bare (fun b z => by cases z)
  have ne : New X pins ea := I0.new_of hex f1
  have nT : New X pins T := I0.new_of hex t6
  have hn : ∀ b ∈ [ea, T], New X pins b := fun b hb => by
    rcases List.mem_cons.mp hb with z | z
    · rw [z]; exact ne
    · rw [List.mem_singleton.mp z]; exact nT
  have hH : ∀ b ∈ [ea, T], H' b = none := fun b hb => by
    rcases List.mem_cons.mp hb with z | z
    · rw [z]; exact f2
    · rw [List.mem_singleton.mp z]; exact t7
  have fl : Heap.FlyingW (PySem.W.hideAll s1.heap ([ea, T] ++ frs X.stack)) (X.env :: X.outer) ea cls a0 s1.heap := by
    refine ⟨fun b o z => PySem.W.of_hideAll _ z, PySem.W.hideAll_none _ (by simp), ?_, oe, vs, T, oT, ts', t1, t2, t3, t4, PySem.W.hideAll_none _ (by simp), t5, t8, t9, t10⟩
    rw [← hst]
    exact funs_hid J.stack fun a ha => PySem.W.hideAll_none _ (List.mem_append_right _ ha)
  refine wpAny_looks_onW (J.ok.frames.trans (by rw [hst])) hfr fl fun g1 hl1 up1 => ?_
  refine wpAny_landsW hl1 fun g2 fl2 up2 => ?_
  have J2 : Inv X pins σ' H' { s1 with heap := g2 } := J.flown hn hH fl2.1 (up1.trans up2)
  obtain ⟨hm1, hr1⟩ := h2 cls H' ea σ' qE f2 J.len
  refine wpAny_handleBy_cons (codeAny_handlers_test ?_) (by intro q; cases q)
  refine ld_glob (X := { X with A := X.A.mark (some (.ref ea)), calm := false, xe := fun _ _ => False }) (J2.move (fun _ z => z) rfl (fun z => by cases z)) hg hm ?_ hd
  obtain ⟨ob, he, hcls⟩ := fl2.there
  have LT : PySem.W.Looks (model X.prog X.w) g2 (typeOf (.ref ea)) cls := by
    rw [← hcls]
    exact (PySem.W.Looks.ld he).andThen .now
  refine (PySem.W.exm_one J2.kIn LT hm1).here ?_
  refine codeAny_handlers_suite_as ?_
  refine lands_againW fl2 fun g3 fl3 up3 => ?_
  have J3 : Inv X pins σ' H' { s1 with heap := g3 } := J.flown hn hH fl3.1 ((up1.trans up2).trans up3)
  have J4 := J3.adopt (cls := cls) ne f2 fl3.there
  refine store_ok J4 nd hi (.inl hx) (v := .ref ea) rfl (fun s5 J5 => ?_) (.inr hx)
  refine wpAny_mono (hs (.ref ea) pins s5 _ _ _ (J5.move (fun _ z => z) rfl (fun z => by cases z)) hr1) (fun f s6 q => ?_) fun _ _ z => z.elim
  have back2 : ∀ {σ' : St} {H' : Hp} {s' : Shared}, Inv { X with A := X.A.mark (some (.ref ea)), calm := false, xe := fun _ _ => False } pins σ' H' s' → Inv X pins σ' H' s' := fun J => J.move (fun _ z => z) rfl I.ok.hd
  cases f with
  | next => obtain ⟨σ2, H2, K2, q⟩ := q; exact name_goes (back2 K2) nd hi hx fun s' K3 => ⟨_, _, K3, q⟩
  | brk => obtain ⟨σ2, H2, K2, q⟩ := q; exact name_goes (back2 K2) nd hi hx fun s' K3 => ⟨_, _, K3, q⟩
  | cont => obtain ⟨σ2, H2, K2, q⟩ := q; exact name_goes (back2 K2) nd hi hx fun s' K3 => ⟨_, _, K3, q⟩
  | ret u => obtain ⟨v, σ2, H2, K2, r, q⟩ := q; exact name_goes (back2 K2) nd hi hx fun s' K3 => ⟨v, _, _, K3, r, q⟩
end L2
namespace L2
open PySem PySem.Spec PyProof.Rows Builtin Builtin.ObjectAttr Builtin.Getset_descriptor
section
variable {prog : Program} {w : World} {A : Around} {E : Value → Shared → Prop} {s : Shared} {K : PySem.W.Frag} {x D : Addr}
structure XCls (K : PySem.W.Frag) (D : Addr) : Prop where
  c : (PySem.W.clsIn K D).isSome = true
  ga : PySem.W.findIn K (.ref D) "__getattribute__" = some (some (.builtin "BaseException.__getattribute__"))
  gt : PySem.W.findIn K (.ref D) "__getattr__" = some none
  cl : PySem.W.findIn K (.ref D) "__class__" = some (some (.builtin "object.__class__"))
  sp : PySem.W.specialIn K (.builtin "object.__class__") "__get__" = some (some (.builtin "getset_descriptor.__get__"))
  tk : PySem.W.takesIn K (.builtin "object.__class__") = some true
  ob : PySem.W.mroIn K D (.type "object") = some true
  be : PySem.W.mroIn K D (.type "BaseException") = some true
theorem find_data {M : Model} {h : Heap} (Z : XCls K D) (X : K.In h) : PySem.W.Looks M h (find (.ref x) (.ref D) "__class__") (.bind (.builtin "getset_descriptor.__get__") (.builtin "object.__class__")) := by
  have L1 := PySem.W.looks_findIn (M := M) X Z.cl
  have L2 : PySem.W.Looks M h (getOf (some (.builtin "object.__class__"))) (some (.builtin "getset_descriptor.__get__")) := PySem.W.looks_specialIn X Z.sp
  have L3 := PySem.W.looks_takesIn (M := M) X Z.tk
  exact L1.andThen (L2.andThen ((show PySem.W.Looks M h (dataDescriptor? (some (.builtin "object.__class__")) (some (.builtin "getset_descriptor.__get__"))) (some (.builtin "getset_descriptor.__get__", .builtin "object.__class__")) from L3.andThen .now).andThen (PySem.W.Looks.tag .now)))
theorem x_get {R : Result → Shared → Prop} {tp : Value} (Z : XCls K D) (X : K.In s.heap) (L0 : PySem.W.Looks (model prog w) s.heap (typeOf (.ref x)) (.ref D)) (h : R (.ok (.ret (.ref D))) s) :
    codeAny (model prog w) A (.call (.builtin "getset_descriptor.__get__") ⟨[.builtin "object.__class__", .ref x, tp], []⟩) R s := by
  obtain ⟨hh, g, dr, t, os⟩ := s
  have L1 := PySem.W.looks_mroIn (M := model prog w) X Z.ob
  refine codeAny_call_builtin PySem.W.KF.slot_gs.plain PySem.W.KF.entry_gs (PySem.W.KF.slot_gs.check _ _ _ _ _ _ _ _ PySem.W.KF.type_class (PySem.W.KF.args_gs _ _ _) ?_)
  unfold Builtin.«getset_descriptor.__get__» descrGet
  rw [PySem.W.dga_obj]
  refine wpAny_bind (wpAny_pure ?_)
  unfold descrGetter descrCheckInstance descrNameAndClass isInstance
  simp only [PySem.W.KF.owner_class]
  repeat lk
  refine ⟨Code.quiet_builtin _ (by decide +kernel), codeAny_builtin PySem.W.KF.entry_class ?_⟩
  unfold Builtin.«object.__class__» shownTypeOf
  repeat lk
  exact h
theorem x_check {M : Model} {nameV : Value} {Q : Unit → Shared → Prop} (Z : XCls K D) (X : K.In s.heap) (L0 : PySem.W.Looks M s.heap (typeOf (.ref x)) (.ref D)) (h : Q () s) : wpAny M A (checkBuiltinCall "BaseException.__getattribute__" ⟨[.ref x, nameV], []⟩) Q E s := by
  obtain ⟨hh, g, d, t, os⟩ := s
  have hk : builtinKind "BaseException.__getattribute__" = some .slot := by decide +kernel
  have hsplit : splitId "BaseException.__getattribute__" = some ("BaseException", "__getattribute__") := by decide +kernel
  have ha := F.args_bexc_ga (.ref x) nameV
  have L1 : PySem.W.Looks M hh (isInstance (.ref x) (.type "BaseException")) true := L0.andThen (PySem.W.looks_mroIn X Z.be)
  simp only [checkBuiltinCall, hk, hsplit]
  refine wpAny_bind (L1.at ?_)
  repeat (first | wp_step | assumption)
theorem x_entry {Q : Fin → Shared → Prop} {tk : Tok} (Z : XCls K D) (X : K.In s.heap) (L0 : PySem.W.Looks (model prog w) s.heap (typeOf (.ref x)) (.ref D)) (h : Q (.done (.ret (.ref D))) s) :
    wpAny (model prog w) A (Builtin.«object.__getattribute__» ⟨[.ref x, .str "__class__" tk], []⟩) Q E s := by
  obtain ⟨hh, g, d, t, os⟩ := s
  have L3 := find_data (x := x) (M := model prog w) Z X
  refine wpAny_bind (wpAny_pure (wpAny_bind (wpAny_pure (wpAny_bind (L0.at (wpAny_bind (L3.at ?_)))))))
  show wpAny _ _ (holding [Value.builtin "object.__class__"] (call (.builtin "getset_descriptor.__get__") [.builtin "object.__class__", .ref x, .ref D]) >>= ret) _ _ _
  exact wpAny_bind (wpAny_holding (wpAny_call (x_get (s := ⟨hh, g, d, t, os⟩) Z X L0 (wpAny_pure h))))
theorem x_class {Q : Option Value → Shared → Prop} (Z : XCls K D) (X : K.In s.heap) (L0 : PySem.W.Looks (model prog w) s.heap (typeOf (.ref x)) (.ref D)) (h : Q (some (.ref D)) { s with toks := s.toks + 1 }) :
    wpAny (model prog w) A (getAttr? (.ref x) "__class__") Q E s := by
  obtain ⟨hh, g, d, t, os⟩ := s
  have L1 := PySem.W.looks_findIn (M := model prog w) X Z.ga
  have L2 := PySem.W.looks_findIn (M := model prog w) X Z.gt
  have hx2 : (Value.builtin "BaseException.__getattribute__" == Value.builtin "object.__getattribute__") = false := by decide +kernel
  have hx1 : (onTheHeap (Value.ref D) && Value.builtin "BaseException.__getattribute__" == Value.builtin "object.__getattribute__") = false := by rw [hx2]; rfl
  unfold getAttr? getAttrBy? getAttrBy
  refine wpAny_bind (wpAny_mkText (wpAny_bind (wpAny_attempt (wpAny_holding (wpAny_bind (L0.at (wpAny_bind (L1.at ?_))))))))
  dsimp only
  rw [hx1, if_neg Bool.false_ne_true]
  unfold getAttrByItsOwn hookBefore callGetattribute boundAndCalled
  rw [if_pos (show onTheHeap (Value.ref D) = true from rfl)]
  refine wpAny_bind (L2.at ?_)
  refine wpAny_bind (wpAny_attempt (wpAny_holding ?_))
  show wpAny _ _ (bindSpecial (.builtin "BaseException.__getattribute__") (.ref x) >>= _) _ _ _
  refine wpAny_bind (wpAny_of_eq (F.excAttr_ValueError.ga.bind _) ?_)
  refine wpAny_call (codeAny_call_builtin F.excAttr_ValueError.ga.plain F.entry_bexc_ga (x_check (s := ⟨hh, g, d, t + 1, os⟩) Z X L0 (x_entry (s := ⟨hh, g, d, t + 1, os⟩) Z X L0 ?_)))
  exact PySem.W.handed_on rfl (wpAny_pure h)
theorem kitx_exc (Z : XCls K D) : PySem.W.KitX K (.ref x) (.ref D) (fun h => ∃ o, h.get? x = some o ∧ o.cls = .ref D) where
  ty := fun M h _ ⟨o, h1, h2⟩ => by rw [← h2]; exact (PySem.W.Looks.ld h1).andThen .now
  it := fun _ _ X _ => by
    obtain ⟨cd, hc⟩ := Option.isSome_iff_exists.mp Z.c
    unfold PySem.W.clsIn at hc
    split at hc
    · rename_i c' d' cd' sl' ho
      intro A' Q' E' s' k q
      unfold isType loadHead
      exact wpAny_bind (wpAny_loadPart (k _ _ (X _ _ ho)) (wpAny_pure q))
    · cases hc
  ne := fun h tp dd its n sl X htp => by
    obtain ⟨cd, hc⟩ := Option.isSome_iff_exists.mp Z.c
    refine Bool.eq_false_iff.mpr fun q => ?_
    have e : D = tp := Value.ref.inj (beq_iff_eq.mp q)
    subst e
    unfold PySem.W.clsIn at hc
    split at hc
    · rename_i c' d' cd' sl' ho
      have z := (X _ _ ho).symm.trans htp
      cases z
    · cases hc
  ca := fun {prog w A E Q s} X I k => x_class Z X (by obtain ⟨o, h1, h2⟩ := I; rw [← h2]; exact (PySem.W.Looks.ld h1).andThen .now) k
end
def rIsX (K : PySem.W.Frag) : List V → Hp → VK → Prop := fun xs H Q => ∃ (a D : Addr) (y : V) (c : Value) (b : Bool), xs = [.ref a, y] ∧ H a = some (exO a (.ref D)) ∧ XCls K D ∧ (∀ u, RelV y u → u = c) ∧ PySem.W.kitOne K (.ref D) c = some b ∧ Q (.bl b) H
theorem call_isX {X : Cx} : CallR X (.builtin "isinstance") (rIsX X.K) := by
  intro pins s σ H xs us Q I r h
  obtain ⟨a, D, y, c, b, rfl, ha, Z, hc, e, q⟩ := h
  obtain ⟨u, w', rfl, rx, rc⟩ := vals2 r
  cases (show u = Value.ref a from rx)
  cases hc w' rc
  have ok : ObjOk X.prog X.w H s.heap a (exO a (.ref D)) := I.hok a _ ha
  exact PySem.W.kia_one (kitx_exc Z) I.kIn ok.1 e (fun z => nomatch z) fun tk => ⟨.bl b, H, I.tok tk, rfl, q⟩
end L2
namespace L2
open PySem PySem.Spec PyProof.Rows PySem.SeqAt
section
variable {X : Cx}
def RpOk (D : PyData) : Prop := D.showable = true ∧ D.hasDict = false ∧ D.shown.length ≤ sizeLine ∧ D.depth ≤ 16
def rRepr (K : PySem.W.Frag) : List V → Hp → VK → Prop := fun xs H Q => ∃ x D, xs = [x] ∧ DR K H x D ∧ RpOk D ∧ Q (.str D.shown) H
theorem call_repr {k : Nat} (hr : Room k X.A) : CallR X (.builtin "repr") (rRepr X.K) := by
  intro pins s σ H xs us Q I r h
  obtain ⟨x, D, rfl, hD, ⟨h1, h2, h3, h4⟩, q⟩ := h
  obtain ⟨u, rfl, rx⟩ := vals1 r
  have hu := hr.un
  have key : ∀ {a : Addr} {as : List Addr}, Reads s.heap (.ref a) D as → wpAny (model X.prog X.w) X.A (call (.builtin "repr") [.ref a]) (EP X pins σ Q) X.xe s := fun rd =>
    repr_of_reads' rd h1 (PyData.noDict_hsm h2) hr.gd (by omega) (fun _ _ e => e) (fun h' u tk hk => ⟨.str D.shown, H, I.kept hk, ⟨_, rfl⟩, q⟩) h3
  cases hD with
  | non => cases rx; exact PySem.P.repr_of_none ⟨.str _, H, I.tok _, ⟨_, rfl⟩, q⟩
  | bl b => cases rx; exact PySem.P.repr_of_bool ⟨.str _, H, I.tok _, ⟨_, rfl⟩, q⟩
  | int i =>
    obtain ⟨t, rfl⟩ := rx
    exact PySem.P.repr_of_int (of_decide_eq_true h1) ⟨.str _, H, I.tok _, ⟨_, rfl⟩, q⟩
  | str z =>
    obtain ⟨t, rfl⟩ := rx
    exact PySem.P.repr_of_str ⟨.str _, H, I.tok _, ⟨_, rfl⟩, q⟩ h3
  | lst hq hd =>
    obtain ⟨as, rd⟩ := DR.reads I (.lst hq hd) rx
    cases rx
    exact key rd
  | tup hq hd =>
    obtain ⟨as, rd⟩ := DR.reads I (.tup hq hd) rx
    cases rx
    exact key rd
end
def Rb (n : Nat) (D : PyData) : Prop := D.showable = true ∧ D.hasDict = false ∧ D.leavesShort 8 = true ∧ D.bulk ≤ n
def RbA (n : Nat) (Ds : List PyData) : Prop := PyData.showableAll Ds = true ∧ PyData.hasDictAll Ds = false ∧ PyData.leavesShortAll 8 Ds = true ∧ PyData.bulkAll Ds ≤ n
theorem RbA.nil {n : Nat} : RbA n [] := ⟨rfl, rfl, rfl, Nat.zero_le _⟩
theorem RbA.cons {m n : Nat} {d : PyData} {ds : List PyData} (h : Rb m d) (t : RbA n ds) : RbA (m + 1 + n) (d :: ds) := by
  obtain ⟨a1, a2, a3, a4⟩ := h
  obtain ⟨b1, b2, b3, b4⟩ := t
  refine ⟨?_, ?_, ?_, ?_⟩
  · show (d.showable && _) = true; rw [a1, b1]; rfl
  · show (d.hasDict || _) = false; rw [a2, b2]; rfl
  · show (d.leavesShort 8 && _) = true; rw [a3, b3]; rfl
  · show d.bulk + 1 + _ ≤ _; omega
theorem RbA.lst {n : Nat} {ds : List PyData} (h : RbA n ds) : Rb n (.list ds) := h
theorem RbA.tup {n : Nat} {ds : List PyData} (h : RbA n ds) : Rb n (.tuple ds) := h
theorem RbA.all {m : Nat} : ∀ {ds : List PyData}, (∀ d ∈ ds, Rb m d) → RbA ((m + 1) * ds.length) ds
  | [], _ => RbA.nil
  | d :: ds, h => by
    have := RbA.cons (h d List.mem_cons_self) (RbA.all fun x hx => h x (List.mem_cons_of_mem _ hx))
    rw [List.length_cons, Nat.mul_succ, Nat.add_comm ((m + 1) * ds.length)]
    exact this
theorem Rb.mono {m n : Nat} {d : PyData} (h : Rb m d) (le : m ≤ n) : Rb n d := ⟨h.1, h.2.1, h.2.2.1, Nat.le_trans h.2.2.2 le⟩
theorem Rb.ok {n : Nat} {d : PyData} (h : Rb n d) (hn : n ≤ 1000) (hd : d.depth ≤ 16) : RpOk d := by
  have := PyData.shown_le_bulk 8 (Nat.le_refl _) d h.2.2.1
  have z : (10100 : Nat) ≤ sizeLine := by decide
  have b := h.2.2.2
  exact ⟨h.1, h.2.1, by omega, hd⟩
end L2
namespace L2
open PySem PySem.Spec PyProof.Rows
section
variable {X : Cx}
end
section
variable {prog : Program} {w : World} {A : Around} {E : Value → Shared → Prop} {s : Shared}
end
end L2
namespace L2
open PySem PySem.Spec PyProof.Rows
theorem pe_lc {X : Cx} {target iter elt : Expr} {ifs : List Expr} {scope sc : Scope} {pos : Pos} {N N' : List Str} {sub : List (Option Nat)} {wi : TI} {g : TG} {tt : TT} {te : TE} (hN : X.N = N) (hsc : X.env.scope = sc)
    (O : CmpOk N sc N' scope sub) (hc : X.calm = true) (hi : PI X target iter wi)
    (B : ∀ C s H fp, PG (cmpOf X scope N' C s H fp) target g ∧ PTs (cmpOf X scope N' C s H fp) ifs tt ∧ PE (cmpOf X scope N' C s H fp) elt te)
    (hs : ∀ x, foldedSetIterable iter X.env x = pure x := by intro _; rfl) : PE X (.ListComp elt [⟨target, iter, ifs, 0⟩] scope pos) (tComp sub wi g tt te) :=
  pe_comp hc (by rw [hN, hsc]; exact O) hi B hs
theorem ps_lc {X : Cx} {target iter elt : Expr} {ifs : List Expr} {scope sc : Scope} {pos : Pos} {N N' : List Str} {sub : List (Option Nat)} {wi : TI} {g : TG} {tt : TT} {te : TE} {i : Nat} {y : Str} {py spos : Pos} (hN : X.N = N) (hsc : X.env.scope = sc)
    (O : CmpOk N sc N' scope sub) (hc : X.calm = true) (hi : PI X target iter wi)
    (B : ∀ C s H fp, PG (cmpOf X scope N' C s H fp) target g ∧ PTs (cmpOf X scope N' C s H fp) ifs tt ∧ PE (cmpOf X scope N' C s H fp) elt te)
    (nd : X.N.Nodup) (hy : X.N[i]? = some y) (hx : Loc X.env.scope y)
    (hsw : swapsWith (.ListComp elt [⟨target, iter, ifs, 0⟩] scope pos) (some (.Name y py)) spos.line X.env = pure true := by rfl)
    (hs : ∀ x, foldedSetIterable iter X.env x = pure x := by intro _; rfl) (hf : X.fn y = true ∨ X.env.scope.names.lookup y = some .local := by first | exact .inl rfl | exact .inr rfl | assumption) :
    PS X (.Assign [.Name y py] (.ListComp elt [⟨target, iter, ifs, 0⟩] scope pos) spos) (tAsg (tComp sub wi g tt te) (gName i)) :=
  ps_comp hc (by rw [hN, hsc]; exact O) hi B nd hy hx hsw hs hf
end L2
namespace My
open PySem L2
def top (i : Nat) : Stmt := PySem.Challenge.pw_roundsalone_k39_what_is_no_step.main.body.getD i (.Pass ⟨0, 0, 0, 0⟩)
abbrev sName : Stmt := top 9
abbrev sIsRow : Stmt := top 10
abbrev sPoints : Stmt := top 13
abbrev sHomes : Stmt := top 14
abbrev sAre : Stmt := top 19
abbrev sTurned : Stmt := top 20
abbrev sSetApart : Stmt := top 21
abbrev sLaid : Stmt := top 22
abbrev sTried : Stmt := top 23
abbrev sDone : Stmt := top 24
abbrev sCell : Stmt := top 26
abbrev sBig : Stmt := top 27
abbrev sNames : Stmt := top 28
abbrev sJoined : Stmt := top 29
abbrev sNetBy : Stmt := top 30
abbrev sDrawn : Stmt := top 31
abbrev sAllEnds : Stmt := top 32
abbrev sLPts : Stmt := top 33
abbrev sCome : Stmt := top 34
abbrev sTiesBy : Stmt := top 35
abbrev sLRef : Stmt := top 36
abbrev sOddT : Stmt := top 37
abbrev sThing : Stmt := top 38
abbrev sLaw : Stmt := top 39
def Ext (H H' : Hp) : Prop := ∀ b o, H b = some o → H' b = some o
theorem Ext.refl (H : Hp) : Ext H H := fun _ _ h => h
theorem Ext.trans {H H1 H2 : Hp} (a : Ext H H1) (b : Ext H1 H2) : Ext H H2 := fun c o h => b c o (a c o h)
theorem Ext.new {H : Hp} {p : Addr} (h : H p = none) (o : HO) : Ext H (upd H p o) := fun b u q => by rw [upd_ne (ne_of_none q h)]; exact q
theorem Ext.none {H H' : Hp} (e : Ext H H') {p : Addr} (h : H' p = none) : H p = none := by
  cases q : H p with
  | none => rfl
  | some o => rw [e p o q] at h; cases h
theorem Ext.sqL {K : PySem.W.Frag} {H H' : Hp} {a : Addr} {xs : List V} (e : Ext H H') (h : SqL K H a xs) : SqL K H' a xs := by
  rcases h with (h | ⟨o, h⟩) | h
  · exact .inl (.inl (e _ _ h))
  · exact .inl (.inr ⟨o, e _ _ h⟩)
  · exact .inr h
def spCell (K : PySem.W.Frag) : Sp := fun vs H Q _ => ∃ (a : Addr) (ns : List Int) (k : Int), vs = [.ref a, .int k] ∧ SqL K H a (ns.map V.int) ∧ 0 ≤ k ∧ ∀ v, Q (.int v) H
section
variable {P : Program} {w : World} {K : PySem.W.Frag} {mg : Str → Option Value} {base : Heap} {f f1 : Addr} {fd fd1 : FuncData}
theorem scCell : FnScope ["_law_script", "_law_k"] ["_law_script", "_law_k"] (defScope sCell) := ⟨rfl, rfl, rfl, by decide +kernel, rfl, by decide +kernel, by decide +kernel⟩
theorem ok_cell (F : Fun K "_law_cell_at" "_law_cell_at" sCell f fd) (ml : mg "len" = none) : FnOk P w K mg base CX0 1 f fd ["_law_script", "_law_k"] (spCell K) := by
  refine F.ok scCell (fun vs H Q E h => ?_) (fun cdv A outer s H vs Q E hr h => ?_)
  · obtain ⟨a, ns, k, rfl, _⟩ := h
    rfl
  obtain ⟨a, ns, k, rfl, hS, h0, q⟩ := h
  refine ⟨_, pss_cons (ps_if (pt_cmpR op_lt (pv 1) (pe_callB call_len_seq rfl ml PySem.boot_len (pa_cons (pv 0) pa_nil)) (nomark _)) (pss_one (ps_ret (pe_ix ix_list (pv 0) (pv 1) (fun _ _ => rfl)))) pss_nil) (pss_one (ps_ret pe_int)), ?_⟩
  try dsimp only [Cx.wish, cxOf]
  refine ⟨_, rfl, _, rfl, a, _, rfl, .inl hS, _, _, rfl, rfl, _, rfl, ?_⟩
  refine ite2 (fun c => ?_) (fun c => q 0)
  have c' : k < (((ns.map V.int).length : Nat) : Int) := of_decide_eq_true c
  rw [List.length_map] at c'
  have hk : k.toNat < ns.length := by omega
  have hv : atI (ns.map V.int) ((k.toNat : Nat) : Int) = some (.int ns[k.toNat]) := atI_nat (by rw [List.getElem?_map, List.getElem?_eq_getElem hk] <;> rfl)
  rw [Int.toNat_of_nonneg h0] at hv
  exact ⟨_, rfl, _, rfl, a, _, _, _, rfl, rfl, hS, hv, q _⟩
end
end My
namespace My
open PySem L2
theorem boot_isinst : bootBuiltins "isinstance" = some (.builtin "isinstance") := by decide +kernel
theorem kit_same (K : PySem.W.Frag) (t : Value) : PySem.W.kitOne K t t = some true := by unfold PySem.W.kitOne; rw [if_pos (beq_self_eq_true t)]
theorem boot_range' : bootBuiltins "range" = some (.type "range") := by decide +kernel
end My
namespace My
open PySem L2
section
variable {σ0 : St} {g : TG} {tt : TT} {te : TE} {Q : List V → Hp → Prop} {H1 : Hp}
theorem turns_ext {K : PySem.W.Frag} {a : Addr} {xs : List V} (f : V → Option V) (hS : SqL K H1 a xs) (hz : xs.length ≤ sizeLine)
    (hs : ∀ x ∈ xs, ∀ H, Ext H1 H → ∀ C : Option V → Hp → Prop, (∀ H', Ext H H' → C (f x) H') → g x σ0 H fun σ2 H2 => Sle σ0 σ2 ∧ tt σ2 H2 fun b H3 => if b = true then te σ2 H3 (fun v H4 => C (some v) H4) else C none H3)
    (hd : ∀ H', Ext H1 H' → Q (xs.filterMap f) H') : cTurns (Itl K a) σ0 g tt te Q H1 := by
  refine turns_list (xs := xs) (fun i ys H => Ext H1 H ∧ ys = (xs.take i).filterMap f) ⟨Ext.refl _, by simp⟩ (fun i ys H _ h => h.1.sqL hS) ?_ ?_
  · rintro i x ys H hx ⟨he, rfl⟩
    have hi : i < xs.length := (List.getElem?_eq_some_iff.mp hx).1
    have hm : x ∈ xs := List.mem_of_getElem? hx
    have tk : (xs.take (i + 1)).filterMap f = (xs.take i).filterMap f ++ (f x).toList := by
      rw [List.take_add_one, hx, List.filterMap_append]
      cases e : f x <;> simp [e]
    have hl : ((xs.take i).filterMap f).length < sizeLine := by
      have h1 := List.length_filterMap_le f (xs.take i)
      rw [List.length_take] at h1
      omega
    refine hs x hm H he (fun o H4 => match o with | some v => ((xs.take i).filterMap f).length < sizeLine ∧ Nxt xs.length i _ ((xs.take i).filterMap f ++ [v]) H4 | none => Nxt xs.length i _ ((xs.take i).filterMap f) H4) (fun H' he' => ?_)
    cases e : f x with
    | none => exact nxt hi ⟨he.trans he', by rw [tk, e]; simp⟩
    | some v => exact ⟨hl, nxt hi ⟨he.trans he', by rw [tk, e]; simp⟩⟩
  · rintro ys H ⟨he, rfl⟩
    rw [List.take_of_length_le (Nat.le_refl _)]
    exact hd H he
end
theorem inV_str (n : Str) : ∀ other : List Str, inV (.str n) (other.map V.str) = decide (n ∈ other)
  | [] => by simp [inV]
  | x :: r => by
    have ih := inV_str n r
    unfold inV at ih ⊢
    rw [List.map_cons, List.any_cons, ih]
    show (x == n || decide (n ∈ r)) = _
    by_cases e : n = x
    · subst e; simp
    · have e' : ¬ x = n := fun z => e z.symm
      simp [e, e']
theorem flat_strs : ∀ other : List Str, (other.map V.str).all flatV = true := fun other => by
  rw [List.all_eq_true]
  intro x hx
  obtain ⟨y, _, rfl⟩ := List.mem_map.mp hx
  rfl
def LsS (H : Hp) (a : Addr) (ss : List Str) : Prop := H a = some (.lst (ss.map V.str))
end My
namespace My
open PySem L2
abbrev sg : Str := "abcdefghijklmnopqrstuvwxyz0123456789"
def sgC (n : Nat) : Nat := sg.cps.toList.getD n 0
theorem sg_len : sg.cps.toList.length = 36 := by decide +kernel
theorem sg_small : ∀ c ∈ sg.cps.toList, c < 128 := by decide +kernel
theorem sg_at {i : Int} (h0 : 0 ≤ i) (h1 : i < 36) : atI sg.cps.toList i = some (sgC i.toNat) := by
  have hk : i.toNat < sg.cps.toList.length := by rw [sg_len]; omega
  have := atI_nat (xs := sg.cps.toList) (j := i.toNat) (v := sgC i.toNat) (by
    unfold sgC
    rw [List.getD_eq_getElem?_getD, List.getElem?_eq_getElem hk]; rfl)
  rw [Int.toNat_of_nonneg h0] at this
  exact this
def Sm (x : Str) : Prop := ∀ c ∈ x.cps.toList, c < 128
theorem Sm.ok {x : Str} (h : Sm x) : PyData.strOk x = true := by
  unfold PyData.strOk
  rw [Array.all_eq_true_iff_forall_mem]
  intro c hc
  have := h c (by simpa using hc)
  exact decide_eq_true (by omega)
theorem Sm.app {x y : Str} (h : Sm x) (h' : Sm y) : Sm (x ++ y) := fun c hc => by
  rw [Str.cps_append, Array.toList_append, List.mem_append] at hc
  exact hc.elim (h c) (h' c)
theorem Sm.one {c : Nat} (h : c < 128) : Sm ⟨#[c]⟩ := fun d hd => by
  have : d = c := by simpa using hd
  omega
theorem Sm.nil : Sm "" := fun c hc => by
  have : c ∈ ([] : List Nat) := hc
  cases this
theorem Sm.slice {x : Str} (h : Sm x) (l u : Option Int) : Sm (Txt.slice x l u) := fun c hc => by
  unfold Txt.slice at hc
  split at hc
  · exact h c hc
  · simp only [List.mem_filterMap] at hc
    obtain ⟨i, _, hi⟩ := hc
    exact h c (by simpa using Array.mem_of_getElem? hi)
end My
namespace My
open PySem L2
def rowD (r : List Str) : PyData := .list (r.map .str)
def SOk (r : List Str) : Prop := ∀ x ∈ r, PyData.strOk x = true
theorem lay_strs : ∀ {r : List Str}, SOk r → PyData.canLayAll0 (r.map .str) = true ∧ PyData.depthAll (r.map .str) = 0
  | [], _ => ⟨rfl, rfl⟩
  | x :: r, h => by
    obtain ⟨h1, h2⟩ := lay_strs (r := r) fun y hy => h y (List.mem_cons_of_mem _ hy)
    refine ⟨?_, ?_⟩
    · show (PyData.strOk x && PyData.canLayAll0 (r.map .str)) = true
      rw [h1, h x List.mem_cons_self]; rfl
    · show max 0 (PyData.depthAll (r.map .str)) = 0
      rw [h2]; rfl
theorem shaped_row {r : List Str} (h : SOk r) : SeqAt.shaped (rowD r) = true := by
  obtain ⟨h3, h4⟩ := lay_strs h
  show (PyData.canLayAll0 (r.map .str) && decide (PyData.depthAll (r.map .str) + 1 ≤ 64)) = true
  rw [h3, h4]; rfl
theorem dr_strs {K : PySem.W.Frag} {H : Hp} : ∀ r : List Str, DRs K H (r.map V.str) (r.map .str)
  | [] => .nil
  | x :: r => .cons (.str x) (dr_strs r)
theorem dr_row {K : PySem.W.Frag} {H : Hp} {a : Addr} {r : List Str} (h : LsS H a r) : DR K H (.ref a) (rowD r) := .lst (SqL.of h) (dr_strs r)
end My
namespace My
open PySem L2
theorem room64 {k : Nat} {A : Around} (hr : Room k A) : A.units + 64 < cLine := by have := hr.un; omega
theorem boot_list' : bootBuiltins "list" = some (.type "list") := by decide +kernel
theorem boot_str' : bootBuiltins "str" = some (.type "str") := by decide +kernel
theorem boot_sorted' : bootBuiltins "sorted" = some (.builtin "sorted") := by decide +kernel
theorem boot_all' : bootBuiltins "all" = some (.builtin "all") := by decide +kernel
theorem boot_set' : bootBuiltins "set" = some (.type "set") := by decide +kernel
theorem boot_tuple' : bootBuiltins "tuple" = some (.type "tuple") := by decide +kernel
end My
namespace L2
open PySem PySem.Spec PyProof.Rows
def tCut (Pm : St → Hp → Prop) (t : TS) : TS := fun D σ H => t { D with nx := Pm } σ H ∧ ∀ σ' H', Pm σ' H' → D.nx σ' H'
theorem ps_cut {X : Cx} {st : Stmt} {t : TS} (Pm : St → Hp → Prop) (h : PS X st t) : PS X st (tCut Pm t) := by
  intro pins s σ H D I hw
  refine thn (h pins s σ H { D with nx := Pm } I hw.1) fun fl s' q => ?_
  cases fl with
  | next => obtain ⟨σ', H', I', q⟩ := q; exact ⟨σ', H', I', hw.2 σ' H' q⟩
  | brk => exact q
  | cont => exact q
  | ret u => exact q
end L2
namespace My
open PySem L2
theorem snoc_ind {α : Type} {P : List α → Prop} (h0 : P []) (hs : ∀ l t, P l → P (l ++ [t])) (l : List α) : P l := by
  have : ∀ r : List α, P r.reverse := fun r => by
    induction r with
    | nil => exact h0
    | cons a r ih => rw [List.reverse_cons]; exact hs _ _ ih
  have q := this l.reverse
  rwa [List.reverse_reverse] at q
abbrev Tr := Str × Str × Str
abbrev lab (f : Str → Str) (t : Tr) : Str → Str := fun p => if f p = f t.2.2 then f t.2.1 else f p
def homF (net : List Tr) : Str → Str := net.foldl lab id
theorem homF_snoc (net : List Tr) (t : Tr) : homF (net ++ [t]) = lab (homF net) t := by unfold homF; rw [List.foldl_append]; rfl
def isPt (net : List Tr) (x : Str) : Prop := ∃ t ∈ net, x = t.2.1 ∨ x = t.2.2
theorem isPt_snoc {net : List Tr} {t : Tr} {x : Str} : isPt (net ++ [t]) x ↔ isPt net x ∨ x = t.2.1 ∨ x = t.2.2 := by
  unfold isPt
  constructor
  · rintro ⟨u, hu, h⟩
    rcases List.mem_append.mp hu with z | z
    · exact .inl ⟨u, z, h⟩
    · rw [List.mem_singleton] at z; subst z; exact .inr h
  · rintro (⟨u, hu, h⟩ | h)
    · exact ⟨u, List.mem_append_left _ hu, h⟩
    · exact ⟨t, List.mem_append_right _ (List.mem_singleton.mpr rfl), h⟩
end My
namespace My
open PySem L2
abbrev Rise (l : List Str) : Prop := l.Pairwise fun a b => sLtB a b = true
theorem rise_ext : ∀ {a b : List Str}, Rise a → Rise b → (∀ x, x ∈ a ↔ x ∈ b) → a = b
  | [], [], _, _, _ => rfl
  | [], y :: b, _, _, h => by have := (h y).mpr List.mem_cons_self; cases this
  | x :: a, [], _, _, h => by have := (h x).mp List.mem_cons_self; cases this
  | x :: a, y :: b, ha, hb, h => by
    obtain ⟨a1, a2⟩ := List.pairwise_cons.mp ha
    obtain ⟨b1, b2⟩ := List.pairwise_cons.mp hb
    have e : x = y := by
      rcases List.mem_cons.mp ((h x).mp List.mem_cons_self) with z | z
      · exact z
      · rcases List.mem_cons.mp ((h y).mpr List.mem_cons_self) with w | w
        · exact w.symm
        · have q := sLtB_trans (b1 x z) (a1 y w)
          rw [sLtB_irr] at q; cases q
    subst e
    refine congrArg _ (rise_ext a2 b2 fun z => ⟨fun hz => ?_, fun hz => ?_⟩)
    · rcases List.mem_cons.mp ((h z).mp (List.mem_cons_of_mem _ hz)) with w | w
      · have := a1 z hz; rw [w, sLtB_irr] at this; cases this
      · exact w
    · rcases List.mem_cons.mp ((h z).mpr (List.mem_cons_of_mem _ hz)) with w | w
      · have := b1 z hz; rw [w, sLtB_irr] at this; cases this
      · exact w
end My
namespace My
open PySem L2
abbrev trV (t : Tr) : List V := [.str t.1, .str t.2.1, .str t.2.2]
def NetAt (H : Hp) (p : Addr) (net : List Tr) : Prop := ∃ as : List Addr, H p = some (.lst (as.map V.ref)) ∧ Paired (fun a t => H a = some (.tup (trV t))) as net
theorem NetAt.ext {H H' : Hp} {p : Addr} {net : List Tr} (h : NetAt H p net) (e : Ext H H') : NetAt H' p net := by
  obtain ⟨as, h1, h2⟩ := h
  exact ⟨as, e _ _ h1, Paired.mapP h2 fun a t z => e _ _ z⟩
theorem paired_get {α β : Type} {R : α → β → Prop} : ∀ {as : List α} {bs : List β} {i : Nat} {a : α}, Paired R as bs → as[i]? = some a → ∃ b, bs[i]? = some b ∧ R a b
  | _, _, _, _, .nil, e => by simp at e
  | _, _, 0, _, .cons h _, e => by simp at e; subst e; exact ⟨_, rfl, h⟩
  | _, _, i + 1, _, .cons _ t, e => by
    obtain ⟨b, h1, h2⟩ := paired_get (i := i) t (by simpa using e)
    exact ⟨b, by simpa using h1, h2⟩
theorem net_get {H : Hp} {as : List Addr} {net : List Tr} {i : Nat} {x : V} (h : Paired (fun a t => H a = some (.tup (trV t))) as net) (e : (as.map V.ref)[i]? = some x) : ∃ a t, x = .ref a ∧ net[i]? = some t ∧ H a = some (.tup (trV t)) := by
  rw [List.getElem?_map] at e
  cases ha : as[i]? with
  | none => rw [ha] at e; cases e
  | some a =>
    rw [ha] at e
    obtain ⟨t, h1, h2⟩ := paired_get h ha
    exact ⟨a, t, (Option.some.inj e).symm, h1, h2⟩
theorem take_snoc {α : Type} {l : List α} {i : Nat} {t : α} (h : l[i]? = some t) : l.take (i + 1) = l.take i ++ [t] := by rw [List.take_add_one, h]; rfl
theorem at_lt {α : Type} {l : List α} {i : Nat} {t : α} (h : l[i]? = some t) : i < l.length := (List.getElem?_eq_some_iff.mp h).1
theorem rise_go : ∀ (l : List Str) (p : Str), PyProof.Rows.risingS p l = true → (p :: l).Nodup → Rise (p :: l)
  | [], p, _, _ => List.pairwise_singleton _ _
  | x :: r, p, h, nd => by
    have h' : (!PySem.Spec.ltCps x.cps.toList p.cps.toList && PyProof.Rows.risingS x r) = true := h
    rw [Bool.and_eq_true] at h'
    have nd' := List.nodup_cons.mp nd
    have ih := rise_go r x h'.2 nd'.2
    have px : sLtB p x = true := by
      have z := h'.1
      rw [PyProof.Rows.ltCps_eq] at z
      rcases sLtB_tri p x with t | t | t
      · exact t
      · exact absurd t (fun e => nd'.1 (by rw [e]; exact List.mem_cons_self))
      · rw [decide_eq_true (of_decide_eq_true t)] at z; cases z
    refine List.pairwise_cons.mpr ⟨fun y hy => ?_, ih⟩
    rcases List.mem_cons.mp hy with e | hy
    · rw [e]; exact px
    · exact sLtB_trans px ((List.pairwise_cons.mp ih).1 y hy)
theorem rise_of {l : List Str} (h : PyProof.Rows.sortedS l = true) (nd : l.Nodup) : Rise l := by
  cases l with
  | nil => exact List.Pairwise.nil
  | cons x r => exact rise_go r x h nd
def PtsOk (net : List Tr) (ps : List Str) : Prop := ps.Nodup ∧ ∀ x, x ∈ ps ↔ isPt net x
def spPoints : Sp := fun vs H Q _ => ∃ (p : Addr) (net : List Tr), vs = [.ref p] ∧ NetAt H p net ∧ net.length ≤ 12 ∧ ∀ r ps H', Ext H H' → H r = none → LsS H' r ps → PtsOk net ps → Rise ps → ps.length ≤ 24 → Q (.ref r) H'
section
variable {P : Program} {w : World} {K : PySem.W.Frag} {mg : Str → Option Value} {base : Heap} {f f1 : Addr} {fd fd1 : FuncData}
theorem scPoints : FnScope ["net"] ["net"] (defScope sPoints) := ⟨rfl, rfl, rfl, by decide +kernel, rfl, by decide +kernel, by decide +kernel⟩
abbrev ptN : List Str := ["tie", "one", "other", "end"]
set_option maxHeartbeats 4000000 in
theorem ok_points (F : Fun K "points" "points" sPoints f fd) (mso : mg "sorted" = none) : FnOk P w K mg base CX0 1 f fd ["net"] spPoints := by
  refine F.ok scPoints (fun vs H Q E h => ?_) (fun cdv A outer s H vs Q E hr h => ?_)
  · obtain ⟨p, net, rfl, _⟩ := h
    rfl
  obtain ⟨p, net, rfl, ⟨as, hp, pr⟩, hl, q⟩ := h
  refine ⟨_, pss_one (ps_ret (pe_callB (call_sortedSet rfl) rfl mso boot_sorted' (pa_cons
    (pe_g gc_set2 rfl (N := ["net"]) (sc := defScope sPoints) (N' := ptN) (sub := [none, none, none, none]) rfl rfl (CmpOk.of (by decide +kernel)) rfl (pi_list (pv 0))
      (fun C s H fp => ⟨(show PG _ _ (gTup K 3 _) from pg_tup rfl (pgs_cons (pg_name (i := 0) (by show ptN.Nodup; decide) rfl (Or.inl rfl)) (pgs_cons (pg_name (i := 1) (by show ptN.Nodup; decide) rfl (Or.inl rfl)) (pgs_cons (pg_name (i := 2) (by show ptN.Nodup; decide) rfl (Or.inl rfl)) pgs_nil)))), pts_nil,
        fun acc => pbd_nest rfl rfl (show PI _ _ _ (iTup K _) from pi_tup (pe_tup (pa_cons (pv 1) (pa_cons (pv 2) pa_nil)))) (pg_name (i := 3) (by show ptN.Nodup; decide) rfl (Or.inl rfl)) pts_nil (pbd_set rfl (pv 3)) (fun _ => rfl) rfl rfl (fun _ => rfl) (fun _ _ _ _ _ h => h) (fun _ _ _ _ _ h => h) (fun _ => rfl)⟩)) pa_nil))), ?_⟩
  try dsimp only [Cx.wish, cxOf]
  have lA : as.length = net.length := pr.length
  refine ⟨_, rfl, p, rfl, ⟨_, SqL.of hp⟩, ?_⟩
  refine g_list (xs := as.map V.ref) (fun i ss σ H' => Ext H H' ∧ (∃ x0 x1 x2 x3 : Option V, σ = [x0, x1, x2, x3]) ∧ ss.Nodup ∧ (∀ x, x ∈ ss ↔ isPt (net.take i) x) ∧ ss.length ≤ 2 * i) ⟨Ext.refl _, ⟨none, none, none, none, rfl⟩, List.nodup_nil, fun x => ⟨fun z => (by cases z), fun ⟨t, ht, _⟩ => (by simp at ht)⟩, Nat.zero_le _⟩ (fun i ss σ H' _ h => SqL.of (h.1 _ _ hp)) ?_ ?_
  · rintro i x ss σ H' hx ⟨he, ⟨x0, x1, x2, x3, rfl⟩, nd, mem, ln⟩
    obtain ⟨a, t, rfl, ht, ha⟩ := net_get pr hx
    have hi := at_lt ht
    refine ⟨a, _, rfl, SqT.of (he _ _ ha), rfl, _, _, rfl, _, _, rfl, _, _, rfl, rfl, iteT (B := False) ?_⟩
    refine ⟨_, rfl, _, rfl, (by show 2 ≤ sizeLine; decide), fun T hT => ⟨T, rfl, ⟨_, SqT.of upd_same⟩, ?_⟩⟩
    have X1 := Ext.new hT (.tup [V.str t.2.1, V.str t.2.2])
    refine g_tuple (xs := [V.str t.2.1, V.str t.2.2]) (fun j ss σ H2 => Ext (upd H' T (.tup [V.str t.2.1, V.str t.2.2])) H2 ∧ (∃ y : Option V, σ = [some (.str t.1), some (.str t.2.1), some (.str t.2.2), y]) ∧ ss.Nodup ∧ (∀ x, x ∈ ss ↔ isPt (net.take i) x ∨ (0 < j ∧ x = t.2.1) ∨ (1 < j ∧ x = t.2.2)) ∧ ss.length ≤ 2 * i + j)
      ⟨Ext.refl _, ⟨_, rfl⟩, nd, fun x => by rw [mem]; simp, by omega⟩ (fun j ss σ H2 _ h => SqT.of (h.1 _ _ upd_same)) ?_ ?_
    · rintro j z ss2 σ H2 hz ⟨h2, ⟨y, rfl⟩, nd2, mem2, ln2⟩
      have hj : j < 2 := at_lt hz
      obtain ⟨v, rfl, hv⟩ : ∃ v : Str, z = .str v ∧ ((j = 0 ∧ v = t.2.1) ∨ (j = 1 ∧ v = t.2.2)) := by
        rcases (show j = 0 ∨ j = 1 by omega) with rfl | rfl
        · exact ⟨t.2.1, (Option.some.inj hz).symm, .inl ⟨rfl, rfl⟩⟩
        · exact ⟨t.2.2, (Option.some.inj hz).symm, .inr ⟨rfl, rfl⟩⟩
      refine iteT (B := False) ⟨_, rfl, v, rfl, by omega, fun ss3 h3 => nxg hj ⟨h2, ⟨_, rfl⟩, ?_⟩⟩
      have key : ss3.Nodup ∧ (∀ x, x ∈ ss3 ↔ x ∈ ss2 ∨ x = v) ∧ ss3.length ≤ ss2.length + 1 := by
        by_cases m : v ∈ ss2
        · rw [if_pos m] at h3
          subst h3
          exact ⟨nd2, fun x => ⟨.inl, fun z => z.elim id fun e => e ▸ m⟩, Nat.le_succ _⟩
        · rw [if_neg m] at h3
          refine ⟨h3.nodup_iff.mpr ?_, fun x => by rw [h3.mem_iff, List.mem_append, List.mem_singleton], by rw [h3.length_eq, List.length_append]; exact Nat.le_refl _⟩
          rw [List.nodup_append]
          exact ⟨nd2, by simp, fun y hy z hz => by rw [List.mem_singleton] at hz; subst hz; rintro rfl; exact m hy⟩
      refine ⟨key.1, fun x => ?_, by have := key.2.2; omega⟩
      rw [key.2.1, mem2]
      rcases hv with ⟨rfl, rfl⟩ | ⟨rfl, rfl⟩
      · simp
      · simp [or_assoc]
    · rintro ss2 σ H2 ⟨h2, ⟨y, rfl⟩, nd2, mem2, ln2⟩
      refine nxg (at_lt hx) ⟨he.trans (X1.trans h2), ⟨_, _, _, _, rfl⟩, nd2, fun x => ?_, by have : ss2.length ≤ 2 * i + 2 := ln2; omega⟩
      rw [mem2, take_snoc ht, isPt_snoc]
      simp
  · rintro ss σ H' ⟨he, _, nd, mem, ln⟩ r hr1
    rw [List.length_map, lA, List.take_of_length_le (Nat.le_refl _)] at mem
    rw [List.length_map, lA] at ln
    refine ⟨r, ss, rfl, upd_same, by omega, fun r2 ss2 hr2 pm srt => ?_⟩
    exact q r2 ss2 _ ((he.trans (Ext.new hr1 _)).trans (Ext.new hr2 _)) ((he.trans (Ext.new hr1 _)).none hr2) upd_same ⟨pm.nodup_iff.mpr nd, fun x => by rw [pm.mem_iff, mem]⟩ (rise_of srt (pm.nodup_iff.mpr nd)) (by rw [pm.length_eq]; omega)
end
end My
namespace My
open PySem L2
theorem Ext.over {H H' : Hp} {d : Addr} (e : Ext H H') (h : H d = Option.none) (o : HO) : Ext H (upd H' d o) := fun b u q => by rw [upd_ne (ne_of_none q h)]; exact e b u q
def hD (ps : List Str) (f : Str → Str) : List (Key × V) := ps.map fun p => (Sum.inr p, V.str (f p))
theorem hD_val (f : Str → Str) (x : Str) : ∀ ps : List Str, valV (hD ps f) (Sum.inr x) = if x ∈ ps then some (.str (f x)) else none
  | [] => by simp [hD, valV]
  | p :: r => by
    have ih := hD_val f x r
    by_cases e : p = x
    · subst e
      rw [if_pos List.mem_cons_self]
      exact valV_pos rfl
    · have : valV (hD (p :: r) f) (Sum.inr x) = valV (hD r f) (Sum.inr x) := valV_neg fun z => e (Sum.inr.inj z)
      rw [this, ih]
      have e' : ¬ x = p := fun z => e z.symm
      simp [e']
theorem hD_snoc {ps : List Str} {f : Str → Str} {i : Nat} {p : Str} (nd : ps.Nodup) (h : ps[i]? = some p) : putK (hD (ps.take i) f) (Sum.inr p) (.str (f p)) = hD (ps.take (i + 1)) f := by
  have np : p ∉ ps.take i := fun z => by
    have e := take_snoc h
    have nd' : (ps.take (i + 1)).Nodup := nd.sublist (List.take_sublist _ _)
    rw [e, List.nodup_append] at nd'
    exact nd'.2.2 p z p (by simp) rfl
  rw [putK_new _ (by rw [hD_val, if_neg np]), take_snoc h]
  unfold hD
  rw [List.map_append]; rfl
theorem hD_itV {ps : List Str} {f : Str → Str} {i : Nat} {p : Str} (h : ps[i]? = some p) : itV (hD ps f) i = [V.str p, V.str (f p)] := by
  unfold itV hD
  rw [List.getElem?_map, h]; rfl
def spHomes : Sp := fun vs H Q _ => ∃ (p : Addr) (net : List Tr), vs = [.ref p] ∧ NetAt H p net ∧ net.length ≤ 12 ∧ ∀ r ps H', Ext H H' → H r = none → H' r = some (.dK (hD ps (homF net))) → PtsOk net ps → ps.length ≤ 24 → Q (.ref r) H'
section
variable {P : Program} {w : World} {K : PySem.W.Frag} {mg : Str → Option Value} {base : Heap} {f f1 : Addr} {fd fd1 : FuncData}
abbrev hoN : List Str := ["net", "home", "tie", "one", "other", "old", "new"]
theorem scHomes : FnScope hoN ["net"] (defScope sHomes) := ⟨rfl, rfl, rfl, by decide +kernel, rfl, by decide +kernel, by decide +kernel⟩
set_option maxHeartbeats 4000000 in
theorem ok_homes (F : Fun K "homes" "homes" sHomes f fd) (G : FnOk P w K mg base CX0 1 f1 fd1 ["net"] spPoints) (bG : Binds K fd1 ["net"] []) (kG : PySem.W.keepIn K (.ref f1) = true) (mG : mg "points" = some (.ref f1)) : FnOk P w K mg base CX0 2 f fd ["net"] spHomes := by
  refine F.ok scHomes (fun vs H Q E h => ?_) (fun cdv A outer s H vs Q E hr h => ?_)
  · obtain ⟨p, net, rfl, _⟩ := h
    rfl
  obtain ⟨p, net, rfl, nt, hl, q⟩ := h
  refine ⟨_, pss_cons (ps_g (i := 1) gc_dict (fun _ => rfl) (N := hoN) (sc := defScope sHomes) (N' := ["point"]) (sub := [none]) rfl rfl (CmpOk.of (by decide +kernel)) rfl (pi_list (pe_call G hr rfl mG kG bG .nil pass0 (pa_cons (pv 0) pa_nil)))
      (fun C s H fp => ⟨pg_name (i := 0) (by show (["point"] : List Str).Nodup; decide) rfl (Or.inl rfl), pts_nil, fun acc => pbd_dict rfl (pv 0) (pv 0)⟩) scHomes.nd rfl (Or.inl rfl))
    (pss_cons (ps_for PassesOwn.never rfl (pi_list (pv 0)) (pg_tup rfl (pgs_cons (pg_name (i := 2) scHomes.nd rfl (Or.inl rfl)) (pgs_cons (pg_name (i := 3) scHomes.nd rfl (Or.inl rfl)) (pgs_cons (pg_name (i := 4) scHomes.nd rfl (Or.inl rfl)) pgs_nil))))
      (pss_cons (ps_asg (pe_tup (pa_cons (pe_dget (hu_of hr) (pv 1) (pv 4) (fun _ _ => rfl)) (pa_cons (pe_dget (hu_of hr) (pv 1) (pv 3) (fun _ _ => rfl)) pa_nil))) (pg_tup rfl (pgs_cons (pg_name (i := 5) scHomes.nd rfl (Or.inr rfl)) (pgs_cons (pg_name (i := 6) scHomes.nd rfl (Or.inr rfl)) pgs_nil))))
      (pss_one (ps_g (i := 1) gc_dict (fun _ => rfl) (N := hoN) (sc := defScope sHomes) (N' := ["point", "at", "new", "old"]) (sub := [none, none, some 6, some 5]) rfl rfl (CmpOk.of (by decide +kernel)) rfl (pi_items (pv 1))
        (fun C s H fp => ⟨(show PG _ _ (gTup K 2 _) from pg_tup rfl (pgs_cons (pg_name (i := 0) (by show (["point", "at", "new", "old"] : List Str).Nodup; decide) rfl (Or.inl rfl)) (pgs_cons (pg_name (i := 1) (by show (["point", "at", "new", "old"] : List Str).Nodup; decide) rfl (Or.inl rfl)) pgs_nil))), pts_nil,
          fun acc => pbd_dict rfl (pv 0) (pe_ifExp (pt_cmpR op_eq (pv 1) (pv 3) (nomark _)) (pv 2) (pv 1))⟩) scHomes.nd rfl (Or.inl rfl)))))
    (pss_one (ps_ret (pv 1)))), ?_⟩
  try dsimp only [Cx.wish, cxOf]
  obtain ⟨as, hp, pr⟩ := id nt
  have lA : as.length = net.length := pr.length
  refine ⟨_, rfl, p, net, rfl, nt, hl, fun r ps H1 e1 hr1 hps pok _ lps => ⟨r, rfl, ⟨_, SqL.of hps⟩, ?_⟩⟩
  have pnd := pok.1
  refine g_list (xs := ps.map V.str) (fun i kvs σ H2 => H2 = H1 ∧ (∃ x : Option V, σ = [x]) ∧ kvs = hD (ps.take i) id) ⟨rfl, ⟨none, rfl⟩, rfl⟩ (fun i kvs σ H2 _ h => by rw [h.1]; exact SqL.of hps) ?_ ?_
  · rintro i x kvs σ H2 hx ⟨rfl, ⟨x0, rfl⟩, rfl⟩
    obtain ⟨y, hy, rfl⟩ : ∃ y, ps[i]? = some y ∧ V.str y = x := by
      rw [List.getElem?_map] at hx
      cases e : ps[i]? with
      | none => rw [e] at hx; cases hx
      | some y => rw [e] at hx; exact ⟨y, rfl, Option.some.inj hx⟩
    refine iteT (B := False) ⟨_, rfl, _, rfl, Sum.inr y, rfl, ?_, nxg (at_lt hx) ⟨rfl, ⟨_, rfl⟩, hD_snoc pnd hy⟩⟩
    have := at_lt hy
    unfold hD
    rw [List.length_map, List.length_take]
    exact small1000 (by omega)
  · rintro kvs σ H2 ⟨rfl, _, rfl⟩ d hd
    rw [List.length_map, List.take_of_length_le (Nat.le_refl _)]
    have hd0 := e1.none hd
    refine ⟨_, rfl, p, rfl, ⟨_, SqL.of ((e1.over hd0 _) _ _ hp)⟩, ?_⟩
    refine for_list (xs := as.map V.ref) (fun i σ H3 => ∃ (d : Addr) (x2 x3 x4 x5 x6 : Option V), σ = [some (.ref p), some (.ref d), x2, x3, x4, x5, x6] ∧ Ext H H3 ∧ H d = none ∧ H3 d = some (.dK (hD ps (homF (net.take i))))) ⟨d, _, _, _, _, _, rfl, e1.over hd0 _, hd0, upd_same⟩ ?_ ?_ ?_
    · rintro i σ H3 _ ⟨d, x2, x3, x4, x5, x6, _, e3, _⟩
      exact SqL.of (e3 _ _ hp)
    · rintro i x σ H3 hx ⟨d, x2, x3, x4, x5, x6, rfl, e3, hd0, hd3⟩
      obtain ⟨a, t, rfl, ht, ha⟩ := net_get pr hx
      have i1 : t.2.1 ∈ ps := (pok.2 _).mpr ⟨t, List.mem_of_getElem? ht, .inl rfl⟩
      have i2 : t.2.2 ∈ ps := (pok.2 _).mpr ⟨t, List.mem_of_getElem? ht, .inr rfl⟩
      have v1 := hD_val (homF (net.take i)) t.2.1 ps
      have v2 := hD_val (homF (net.take i)) t.2.2 ps
      rw [if_pos i1] at v1
      rw [if_pos i2] at v2
      refine ⟨a, _, rfl, SqT.of (e3 _ _ ha), rfl, _, _, rfl, _, _, rfl, _, _, rfl, rfl, ?_⟩
      have g2 := DGet.k (k := Sum.inr t.2.2) hd3
      rw [v2] at g2
      have g1 := DGet.k (k := Sum.inr t.2.1) hd3
      rw [v1] at g1
      refine ⟨_, rfl, _, rfl, d, _, rfl, g2, _, rfl, _, rfl, d, _, rfl, g1, (by show 2 ≤ sizeLine; decide), fun T hT => ⟨T, _, rfl, SqT.of upd_same, rfl, _, _, rfl, _, _, rfl, rfl, ?_⟩⟩
      have e4 := Ext.new hT (.tup [V.str (homF (net.take i) t.2.2), V.str (homF (net.take i) t.2.1)])
      refine ⟨_, rfl, d, _, rfl, e4 _ _ hd3, fun o => ?_⟩
      have ln : (hD ps (homF (net.take i))).length = ps.length := by unfold hD; rw [List.length_map]
      have g0 := (e3.trans e4).over hd0 (.frz o (.dK (hD ps (homF (net.take i)))))
      rw [ln]
      refine g_pairs (fun j kvs σ H5 => (∃ x0 x1 : Option V, σ = [x0, x1, some (.str (homF (net.take i) t.2.1)), some (.str (homF (net.take i) t.2.2))]) ∧ Ext H H5 ∧ H5 d = some (.frz o (.dK (hD ps (homF (net.take i))))) ∧ kvs = hD (ps.take j) (lab (homF (net.take i)) t))
        ⟨⟨none, none, rfl⟩, g0, upd_same, rfl⟩ (fun j kvs σ H5 _ h => h.2.2.1) ?_ ?_
      · rintro j kvs σ H5 T2 hj ⟨⟨x0, x1, rfl⟩, e5, f5, rfl⟩ hT2
        have hy : ps[j]? = some ps[j] := List.getElem?_eq_getElem hj
        refine ⟨T2, _, rfl, SqT.of upd_same, ?_⟩
        rw [hD_itV hy]
        refine ⟨rfl, _, _, rfl, _, _, rfl, rfl, iteT (B := False) ?_⟩
        have e6 := e5.trans (Ext.new hT2 (.tup [V.str ps[j], V.str (homF (net.take i) ps[j])]))
        have f6 := Ext.new hT2 (.tup [V.str ps[j], V.str (homF (net.take i) ps[j])]) _ _ f5
        have sm : (hD (ps.take j) (lab (homF (net.take i)) t)).length < sizeLine := by
          unfold hD
          rw [List.length_map, List.length_take]
          exact small1000 (by omega)
        refine ⟨_, rfl, _, rfl, _, rfl, rfl, _, rfl, ?_⟩
        refine ite2 (fun c => ?_) (fun c => ?_)
        · refine ⟨_, rfl, Sum.inr ps[j], rfl, sm, nxg hj ⟨⟨_, _, rfl⟩, e6, f6, ?_⟩⟩
          have c' : homF (net.take i) ps[j] = homF (net.take i) t.2.2 := by simpa using c
          have h := hD_snoc (f := lab (homF (net.take i)) t) pnd hy
          rwa [show lab (homF (net.take i)) t ps[j] = homF (net.take i) t.2.1 from if_pos c'] at h
        · refine ⟨_, rfl, Sum.inr ps[j], rfl, sm, nxg hj ⟨⟨_, _, rfl⟩, e6, f6, ?_⟩⟩
          have c' : ¬ homF (net.take i) ps[j] = homF (net.take i) t.2.2 := by simpa using c
          have h := hD_snoc (f := lab (homF (net.take i)) t) pnd hy
          rwa [show lab (homF (net.take i)) t ps[j] = homF (net.take i) ps[j] from if_neg c'] at h
      · rintro kvs σ H5 ⟨⟨x0, x1, rfl⟩, e5, f5, rfl⟩ d2 hd2
        rw [List.take_of_length_le (Nat.le_refl _)]
        have hd20 := e5.none hd2
        refine ⟨d2, _, _, _, _, _, rfl, e5.over hd20 _, hd20, ?_⟩
        rw [take_snoc ht, homF_snoc]
        exact upd_same
    · rintro σ H3 ⟨d, x2, x3, x4, x5, x6, rfl, e3, hd0, hd3⟩
      rw [List.length_map, lA, List.take_of_length_le (Nat.le_refl _)] at hd3
      exact ⟨_, rfl, q d ps H3 e3 hd0 hd3 pok lps⟩
end
end My
namespace My
open PySem L2
def RowsAt (H : Hp) (p : Addr) (F : List (List Str)) : Prop := ∃ as : List Addr, H p = some (.lst (as.map V.ref)) ∧ Paired (LsS H) as F
theorem RowsAt.ext {H H' : Hp} {p : Addr} {F : List (List Str)} (h : RowsAt H p F) (e : Ext H H') : RowsAt H' p F := by
  obtain ⟨as, h1, h2⟩ := h
  exact ⟨as, e _ _ h1, Paired.mapP h2 fun a r z => e _ _ z⟩
def RowsY (H0 H : Hp) (fo : Addr) (F : List (List Str)) : Prop := ∃ as : List Addr, H fo = some (.lst (as.map V.ref)) ∧ Paired (fun a r => LsS H a r ∧ H0 a = none ∧ a ≠ fo) as F
theorem RowsY.rows {H0 H : Hp} {p : Addr} {F : List (List Str)} (h : RowsY H0 H p F) : RowsAt H p F := by
  obtain ⟨as, h1, h2⟩ := h
  exact ⟨as, h1, Paired.mapP h2 fun a r z => z.1⟩
theorem RowsY.ext {H0 H H' : Hp} {p : Addr} {F : List (List Str)} (h : RowsY H0 H p F) (e : Ext H H') : RowsY H0 H' p F := by
  obtain ⟨as, h1, h2⟩ := h
  exact ⟨as, e _ _ h1, Paired.mapP h2 fun a r z => ⟨e _ _ z.1, z.2⟩⟩
def RowsZ (H0 H : Hp) (fo : Addr) (F : List (List Str)) : Prop := ∃ as : List Addr, as.Nodup ∧ H fo = some (.lst (as.map V.ref)) ∧ Paired (fun a r => LsS H a r ∧ H0 a = none ∧ a ≠ fo) as F
theorem RowsZ.y {H0 H : Hp} {p : Addr} {F : List (List Str)} (h : RowsZ H0 H p F) : RowsY H0 H p F := by
  obtain ⟨as, _, h1, h2⟩ := h
  exact ⟨as, h1, h2⟩
theorem getD_rangeA (as : List Addr) : (List.range as.length).map (fun i => as.getD i 0) = as := by
  refine List.ext_getElem? fun i => ?_
  by_cases hi : i < as.length
  · rw [List.getElem?_map, List.getElem?_range hi, List.getElem?_eq_getElem hi]
    show some (as.getD i 0) = _
    rw [List.getD_eq_getElem?_getD, List.getElem?_eq_getElem hi]; rfl
  · rw [List.getElem?_eq_none (by simp; omega), List.getElem?_eq_none (by omega)]
theorem pick_perm {as : List Addr} {o : Array Nat} (g : Gd as.length o) : (o.toList.map fun i => as.getD i 0).Perm as :=
  ((Array.perm_iff_toList_perm.mp g).map fun i => as.getD i 0).trans (List.Perm.of_eq (getD_rangeA as))
end My
namespace My
open PySem L2
def Sgd (s : Str) : Prop := ∀ c ∈ s.cps.toList, c ∈ sg.cps.toList
theorem sgC_mem {i : Nat} (hi : i < 36) : sgC i ∈ sg.cps.toList := by
  have hi' : i < sg.cps.toList.length := by rw [sg_len]; exact hi
  unfold sgC
  rw [List.getD_eq_getElem?_getD, List.getElem?_eq_getElem hi']
  exact List.getElem_mem hi'
theorem Sgd.sm {s : Str} (h : Sgd s) : Sm s := fun c hc => sg_small c (h c hc)
theorem Sgd.app {x y : Str} (h : Sgd x) (h' : Sgd y) : Sgd (x ++ y) := fun c hc => by
  rw [Str.cps_append, Array.toList_append, List.mem_append] at hc
  exact hc.elim (h c) (h' c)
theorem Sgd.one {i : Nat} (hi : i < 36) : Sgd ⟨#[sgC i]⟩ := fun d hd => by
  have : d = sgC i := by simpa using hd
  rw [this]; exact sgC_mem hi
theorem Sgd.nil : Sgd "" := fun c hc => by
  have : c ∈ ([] : List Nat) := hc
  cases this
theorem Sgd.slice {x : Str} (h : Sgd x) (l u : Option Int) : Sgd (Txt.slice x l u) := fun c hc => by
  unfold Txt.slice at hc
  split at hc
  · exact h c hc
  · simp only [List.mem_filterMap] at hc
    obtain ⟨i, _, hi⟩ := hc
    exact h c (by simpa using Array.mem_of_getElem? hi)
def Named (s : Str) : Prop := Sgd s ∧ 1 ≤ s.length ∧ s.length ≤ 6
end My
namespace My
open PySem L2
section
variable {P : Program} {w : World} {K : PySem.W.Frag} {mg : Str → Option Value} {base : Heap} {f f1 f2 : Addr} {fd fd1 fd2 : FuncData}
theorem turns_net {as : List Addr} {net : List Tr} {Q : List V → Hp → Prop} {H1 : Hp} {σ0 : St} {g : TG} {tt : TT} {te : TE} {p : Addr} (h : Tr → Str) (hp : H1 p = some (.lst (as.map V.ref))) (pr : Paired (fun a t => H1 a = some (.tup (trV t))) as net) (ln : net.length ≤ 12)
    (hs : ∀ a t, H1 a = some (.tup (trV t)) → ∀ (C : V → Hp → Prop) (B : Hp → Prop), C (.str (h t)) H1 → g (.ref a) σ0 H1 fun σ2 H2 => Sle σ0 σ2 ∧ tt σ2 H2 fun b H3 => if b = true then te σ2 H3 C else B H3)
    (hd : Q ((net.map h).map V.str) H1) : cTurns (Itl K p) σ0 g tt te Q H1 := by
  have lA : as.length = net.length := pr.length
  refine turns_list (xs := as.map V.ref) (fun j ys H2 => H2 = H1 ∧ ys = ((net.take j).map h).map V.str) ⟨rfl, rfl⟩ (fun j ys H2 _ h => by rw [h.1]; exact SqL.of hp) ?_ ?_
  · rintro j x ys H2 hx ⟨rfl, rfl⟩
    obtain ⟨a, t, rfl, ht, ha⟩ := net_get pr hx
    have hi := at_lt ht
    have sz : (((net.take j).map h).map V.str).length < sizeLine := by
      rw [List.length_map, List.length_map, List.length_take]
      exact small1000 (by omega)
    exact hs a t ha _ _ ⟨sz, nxt (at_lt hx) ⟨rfl, by rw [take_snoc ht, List.map_append, List.map_append]; rfl⟩⟩
  · rintro ys H2 ⟨rfl, rfl⟩
    rw [List.length_map, lA, List.take_of_length_le (Nat.le_refl _)]
    exact hd
end
end My
namespace My
open PySem L2
theorem nk (K : PySem.W.Frag) : PySem.W.kitOne K (.type "NoneType") (.type "str") = some false ∧ PySem.W.kitOne K (.type "NoneType") (.type "list") = some false := ⟨by kernel_rfl, by kernel_rfl⟩
theorem bk (K : PySem.W.Frag) : PySem.W.kitOne K (.type "bool") (.type "str") = some false ∧ PySem.W.kitOne K (.type "bool") (.type "list") = some false := ⟨by kernel_rfl, by kernel_rfl⟩
theorem ik (K : PySem.W.Frag) : PySem.W.kitOne K (.type "int") (.type "str") = some false ∧ PySem.W.kitOne K (.type "int") (.type "list") = some false := ⟨by kernel_rfl, by kernel_rfl⟩
theorem sk (K : PySem.W.Frag) : PySem.W.kitOne K (.type "str") (.type "list") = some false := by kernel_rfl
theorem lk (K : PySem.W.Frag) : PySem.W.kitOne K (.type "list") (.type "str") = some false := by kernel_rfl
theorem tk (K : PySem.W.Frag) : PySem.W.kitOne K (.type "tuple") (.type "str") = some false ∧ PySem.W.kitOne K (.type "tuple") (.type "list") = some false := ⟨by kernel_rfl, by kernel_rfl⟩
end My
namespace My
open PySem L2
def inB (c : Str) : Bool := !(Builtin.Str.occurrences sg c 0 sg.length 1).isEmpty
def sgn (x : Str) (i : Nat) : Str := ⟨#[x.cps.toList.getD i 0]⟩
def sgns (s : Str) : List Bool := (List.range s.cps.size).map fun i => inB (sgn s i)
def nameB (s : Str) : Bool := decide (1 ≤ s.length) && (decide (s.length ≤ 6) && (sgns s).all id)
def nmV : V → Bool
  | .str s => nameB s
  | _ => false
def Item (H : Hp) (x : V) (D : PyData) : Prop := (x = .non ∧ D = .none) ∨ (∃ b, x = .bl b ∧ D = .bool b) ∨ (∃ i, x = .int i ∧ D = .int i) ∨ (∃ s : Str, x = .str s ∧ D = .str s ∧ s.length ≤ 100 ∧ Sm s) ∨
  (∃ (a : Addr) (ss : List Str), x = .ref a ∧ D = .list (ss.map .str) ∧ LsS H a ss ∧ SOk ss ∧ ss.length ≤ 20 ∧ ∀ s ∈ ss, s.length ≤ 100 ∧ Sm s) ∨ (∃ (a : Addr) (ss : List Str), x = .ref a ∧ D = .tuple (ss.map .str) ∧ H a = some (.tup (ss.map V.str)) ∧ SOk ss ∧ ss.length ≤ 20)
theorem Item.ext {H H' : Hp} {x : V} {D : PyData} (h : Item H x D) (e : Ext H H') : Item H' x D := by
  rcases h with h | h | h | h | ⟨a, ss, h1, h2, h3, h4⟩ | ⟨a, ss, h1, h2, h3, h4⟩
  · exact .inl h
  · exact .inr (.inl h)
  · exact .inr (.inr (.inl h))
  · exact .inr (.inr (.inr (.inl h)))
  · exact .inr (.inr (.inr (.inr (.inl ⟨a, ss, h1, h2, e _ _ h3, h4⟩))))
  · exact .inr (.inr (.inr (.inr (.inr ⟨a, ss, h1, h2, e _ _ h3, h4⟩))))
theorem Item.ty {K : PySem.W.Frag} {H : Hp} {x : V} {D : PyData} (h : Item H x D) : (∃ s : Str, x = .str s ∧ s.length ≤ 100 ∧ Sm s) ∨ (nmV x = false ∧ ∃ t, TyOf K H x t ∧ PySem.W.kitOne K t (.type "str") = some false) := by
  rcases h with ⟨rfl, _⟩ | ⟨b, rfl, _⟩ | ⟨i, rfl, _⟩ | ⟨s, rfl, _, h, hm⟩ | ⟨a, ss, rfl, _, h3, h4⟩ | ⟨a, ss, rfl, _, h3, h4⟩
  · exact .inr ⟨rfl, _, .non, (nk K).1⟩
  · exact .inr ⟨rfl, _, .bl b, (bk K).1⟩
  · exact .inr ⟨rfl, _, .int i, (ik K).1⟩
  · exact .inl ⟨s, rfl, h, hm⟩
  · exact .inr ⟨rfl, _, .lst h3, lk K⟩
  · exact .inr ⟨rfl, _, .tup h3, (tk K).1⟩
def spName : Sp := fun vs H Q _ => ∃ (x : V) (D : PyData), vs = [x] ∧ Item H x D ∧ ∀ H', Ext H H' → Q (.bl (nmV x)) H'
section
variable {P : Program} {w : World} {K : PySem.W.Frag} {mg : Str → Option Value} {base : Heap} {f f1 : Addr} {fd fd1 : FuncData}
theorem scName : FnScope ["thing"] ["thing"] (defScope sName) := ⟨rfl, rfl, rfl, by decide +kernel, rfl, by decide +kernel, by decide +kernel⟩
theorem ok_name {t1 t2 : Tok} (F : Fun K "is_name" "is_name" sName f fd) (ml : mg "len" = none) (mi : mg "isinstance" = none) (ms : mg "str" = none) (ma : mg "all" = none) (mS : mg "SIGNS" = some (.str sg t1)) (mM : mg "MOST_SIGNS" = some (.int 6 t2)) : FnOk P w K mg base CX0 1 f fd ["thing"] spName := by
  refine F.ok scName (fun vs H Q E h => ?_) (fun cdv A outer s H vs Q E hr h => ?_)
  · obtain ⟨x, D, rfl, _⟩ := h
    rfl
  obtain ⟨x, D, rfl, hI, q⟩ := h
  refine ⟨_, pss_cons (ps_if (PW.pt (pw_or (pt_not (pt_val (pe_callB call_isinst rfl mi boot_isinst (pa_cons (pv 0) (pa_cons (pe_bltn (v := .ty "str") rfl ms boot_str' rfl) pa_nil)))))
      (pw_or (pt_cmpR op_lt (pe_callB call_len_str rfl ml PySem.boot_len (pa_cons (pv 0) pa_nil)) pe_int (nomark _)) (pw_or1 (pt_cmpR op_gt (pe_callB call_len_str rfl ml PySem.boot_len (pa_cons (pv 0) pa_nil)) (pe_glob (v := .int 6) rfl mM ⟨t2, rfl⟩) (nomark _))))))
      (pss_one (ps_ret pe_bl)) pss_nil)
    (pss_one (ps_ret (pe_callB (call_allB rfl) rfl ma boot_all' (pa_cons
      (pe_lc (N := ["thing"]) (sc := defScope sName) (N' := ["sign"]) (sub := [none]) rfl rfl (CmpOk.of (by decide +kernel)) rfl (pi_str (pv 0))
        (fun C s H fp => ⟨pg_name (i := 0) (by show (["sign"] : List Str).Nodup; decide) rfl (Or.inl rfl), pts_nil, pe_cmpR op_in_str (pv 0) (pe_glob (v := .str sg) rfl mS ⟨t1, rfl⟩) (by with_unfolding_all rfl)⟩)) pa_nil)))), ?_⟩
  try dsimp only [Cx.wish, cxOf]
  rcases Item.ty (K := K) hI with ⟨z, rfl, hz, sm⟩ | ⟨hn, t, ty, kt⟩
  · have wl : z.length ≤ sizeLine := Nat.le_of_lt (small1000 (by omega))
    have nf : ∀ b : Bool, nameB z = b → ∀ H', Ext H H' → Q (.bl b) H' := fun b e H' he => by subst e; exact q H' he
    refine ⟨_, rfl, _, _, _, true, rfl, .str z, kit_same _ _, true, rfl, iteF ?_⟩
    refine ⟨_, rfl, z, rfl, wl, _, _, rfl, rfl, _, rfl, ?_⟩
    refine ite2 (fun c => ?_) (fun c => ?_)
    · have c' : (z.length : Int) < 1 := of_decide_eq_true c
      refine iteT (nf false ?_ H (Ext.refl _))
      unfold nameB
      rw [decide_eq_false (by omega)]; rfl
    have c' : ¬ (z.length : Int) < 1 := fun y => c (decide_eq_true y)
    refine ⟨_, rfl, z, rfl, wl, _, _, rfl, rfl, _, rfl, ?_⟩
    refine ite2 (fun d => ?_) (fun d => ?_)
    · have d' : (6 : Int) < z.length := of_decide_eq_true d
      refine nf false ?_ H (Ext.refl _)
      unfold nameB
      rw [decide_eq_true (by omega), decide_eq_false (by omega)]; rfl
    have d' : ¬ (6 : Int) < z.length := fun y => d (decide_eq_true y)
    refine ⟨_, rfl, z, rfl, ?_⟩
    refine turns_val (fun i ys H' => H' = H ∧ ys = (List.range i).map fun i => V.bl (inB (sgn z i))) ⟨rfl, rfl⟩ ?_ ?_
    · rintro i ys H' hi ⟨rfl, rfl⟩
      refine ⟨Sle.set _ (Sle.refl _) (fun u z => by cases z), ?_⟩
      refine iteT (B := False) ?_
      refine ⟨_, rfl, _, _, rfl, rfl, ?_, nxt hi ⟨rfl, ?_⟩⟩
      · rw [List.length_map, List.length_range]
        exact small1000 (by have : z.cps.size = z.length := rfl; omega)
      · rw [List.range_succ, List.map_append]; rfl
    · rintro ys H' ⟨rfl, rfl⟩ r hr'
      refine ⟨r, sgns z, rfl, ?_, nf _ ?_ _ (Ext.new hr' _)⟩
      · refine SqL.of ?_
        rw [upd_same]
        unfold sgns
        rw [List.map_map]
        rfl
      · unfold nameB
        rw [decide_eq_true (by omega), decide_eq_true (by omega)]; rfl
  · refine ⟨_, rfl, _, _, _, false, rfl, ty, kt, false, rfl, iteT (iteT ?_)⟩
    have := q H (Ext.refl _)
    rw [hn] at this
    exact this
end
end My
namespace My
open PySem L2
def ltV : V → V → Bool
  | .str a, .str b => decide (a.cps.toList < b.cps.toList)
  | _, _ => false
def rowP (xs : List V) : Prop := (∀ i, i < xs.length → nmV (xs.getD i .non) = true) ∧ ∀ i, i + 1 < xs.length → ltV (xs.getD i .non) (xs.getD (i + 1) .non) = true
theorem nmV_str {x : V} (h : nmV x = true) : ∃ s : Str, x = .str s := by
  cases x with
  | str s => exact ⟨s, rfl⟩
  | _ => cases h
theorem getD_mem {xs : List V} {i : Nat} (hi : i < xs.length) : xs.getD i .non ∈ xs := by
  rw [List.getD_eq_getElem?_getD, List.getElem?_eq_getElem hi]; exact List.getElem_mem hi
theorem cut_one (xs : List V) : cutV xs (some 1) none = xs.drop 1 := by
  unfold cutV
  have e : HT.sIx xs.length 0 (some 1) = min 1 xs.length := HT.sIx_nat xs.length 0 1
  have e2 : HT.sIx xs.length xs.length none = xs.length := rfl
  rw [e, e2]
  cases xs with
  | nil => rfl
  | cons x r =>
    rw [show min 1 (x :: r).length = 1 by simp]
    exact List.take_of_length_le (by simp)
def spIsRow (K : PySem.W.Frag) : Sp := fun vs H Q _ => ∃ x : V, vs = [x] ∧ ((∃ (a : Addr) (xs : List V), x = .ref a ∧ H a = some (.lst xs) ∧ xs.length ≤ 100 ∧ (∀ y ∈ xs, ∃ D, Item H y D) ∧ ∀ (b : Bool) H', (b = true ↔ rowP xs) → Ext H H' → Q (.bl b) H') ∨
  (∃ t, TyOf K H x t ∧ PySem.W.kitOne K t (.type "list") = some false ∧ Q (.bl false) H))
section
variable {P : Program} {w : World} {K : PySem.W.Frag} {mg : Str → Option Value} {base : Heap} {f f1 : Addr} {fd fd1 : FuncData}
theorem scIsRow : FnScope ["thing"] ["thing"] (defScope sIsRow) := ⟨rfl, rfl, rfl, by decide +kernel, rfl, by decide +kernel, by decide +kernel⟩
theorem ok_isrow (F : Fun K "is_row" "is_row" sIsRow f fd) (G : FnOk P w K mg base CX0 1 f1 fd1 ["thing"] spName) (bG : Binds K fd1 ["thing"] []) (kG : PySem.W.keepIn K (.ref f1) = true) (mG : mg "is_name" = some (.ref f1)) (mi : mg "isinstance" = none) (mL : mg "list" = none) (ma : mg "all" = none) (mz : mg "zip" = none) :
    FnOk P w K mg base CX0 2 f fd ["thing"] (spIsRow K) := by
  refine F.ok scIsRow (fun vs H Q E h => ?_) (fun cdv A outer s H vs Q E hr h => ?_)
  · obtain ⟨x, rfl, _⟩ := h
    rfl
  obtain ⟨x, rfl, h⟩ := h
  refine ⟨_, pss_cons (ps_if (PW.pt (pw_or (pt_not (pt_val (pe_callB call_isinst rfl mi boot_isinst (pa_cons (pv 0) (pa_cons (pe_bltn (v := .ty "list") rfl mL boot_list' rfl) pa_nil)))))
      (pw_or1 (pt_not (pt_val (pe_callB (call_allB rfl) rfl ma boot_all' (pa_cons
        (pe_lc (N := ["thing"]) (sc := defScope sIsRow) (N' := ["one"]) (sub := [none]) rfl rfl (CmpOk.of (by decide +kernel)) rfl (pi_list (pv 0))
          (fun C s H fp => ⟨pg_name (i := 0) (by show (["one"] : List Str).Nodup; decide) rfl (Or.inl rfl), pts_nil, pe_call G hr rfl mG kG bG .nil pass0 (pa_cons (pv 0) pa_nil)⟩)) pa_nil)))))))
      (pss_one (ps_ret pe_bl)) pss_nil)
    (pss_one (ps_ret (pe_callB (call_allB rfl) rfl ma boot_all' (pa_cons
      (pe_lc (N := ["thing"]) (sc := defScope sIsRow) (N' := ["one", "other"]) (sub := [none, none]) rfl rfl (CmpOk.of (by decide +kernel)) rfl (pi_zip rfl mz (pa_cons (pv 0) (pa_cons (pe_slice sl_list (pv 0) (po_some pe_int) po_none) pa_nil)))
        (fun C s H fp => ⟨(show PG _ _ (gTup K 2 _) from pg_tup rfl (pgs_cons (pg_name (i := 0) (by show (["one", "other"] : List Str).Nodup; decide) rfl (Or.inl rfl)) (pgs_cons (pg_name (i := 1) (by show (["one", "other"] : List Str).Nodup; decide) rfl (Or.inl rfl)) pgs_nil))), pts_nil, pe_cmpR op_lt_str (pv 0) (pv 1) (nomark _)⟩)) pa_nil)))), ?_⟩
  try dsimp only [Cx.wish, cxOf]
  rcases h with ⟨a, xs, rfl, ha, hl, hI, q⟩ | ⟨t, ty, kt, q⟩
  · refine ⟨_, rfl, _, _, _, true, rfl, .lst ha, kit_same _ _, true, rfl, iteF ?_⟩
    have hz : xs.length ≤ sizeLine := Nat.le_of_lt (small1000 (by omega))
    refine ⟨_, rfl, a, rfl, ⟨_, SqL.of ha⟩, ?_⟩
    refine turns_ext (xs := xs) (fun v => some (V.bl (nmV v))) (SqL.of ha) hz (fun x hx H1 he C hC => ?_) fun H1 he => ?_
    · obtain ⟨D, hD⟩ := hI x hx
      refine ⟨Sle.set _ (Sle.refl _) (fun u z => by cases z), iteT (B := False) ⟨_, rfl, x, D, rfl, hD.ext he, fun H' he' => hC H' he'⟩⟩
    · intro r hr1
      have e1 : xs.filterMap (fun v => some (V.bl (nmV v))) = (xs.map nmV).map V.bl := by
        rw [List.map_map]
        exact congrFun (List.filterMap_eq_map (f := V.bl ∘ nmV)) xs
      rw [e1]
      refine ⟨r, xs.map nmV, rfl, SqL.of upd_same, (xs.map nmV).all id, rfl, ?_⟩
      have e2 := he.trans (Ext.new hr1 (.lst ((xs.map nmV).map V.bl)))
      refine ite2 (fun c => ?_) (fun c => ?_)
      · refine q false _ ⟨fun z => (by cases z), fun z => ?_⟩ e2
        have z2 : (xs.map nmV).all id = true := by
          rw [List.all_map, List.all_eq_true]
          intro y hy
          obtain ⟨i, hi, rfl⟩ := List.mem_iff_getElem.mp hy
          have := z.1 i hi
          rw [List.getD_eq_getElem?_getD, List.getElem?_eq_getElem hi] at this
          exact this
        rw [z2] at c
        cases c
      · have z2 : (xs.map nmV).all id = true := by
          cases h3 : (xs.map nmV).all id with
          | true => rfl
          | false => rw [h3] at c; exact absurd rfl c
        have hnm : ∀ i, i < xs.length → nmV (xs.getD i .non) = true := fun i hi => by
          rw [List.all_map, List.all_eq_true] at z2
          exact z2 _ (getD_mem hi)
        refine ⟨_, rfl, _, rfl, _, rfl, a, xs, rfl, SqL.of (e2 _ _ ha), fun r2 hr2 => ?_⟩
        rw [cut_one]
        have e3 := e2.trans (Ext.new hr2 (.lst (xs.drop 1)))
        refine ⟨a, r2, xs, xs.drop 1, rfl, SqL.of (e3 _ _ ha), SqL.of upd_same, ?_⟩
        have hm : min xs.length (xs.drop 1).length = xs.length - 1 := by rw [List.length_drop]; omega
        rw [hm]
        refine turns_tup (fun i ys H' => Ext (upd (upd H1 r (.lst ((xs.map nmV).map V.bl))) r2 (.lst (xs.drop 1))) H' ∧ ys = (List.range i).map fun i => V.bl (ltV (xs.getD i .non) (xs.getD (i + 1) .non))) ⟨Ext.refl _, rfl⟩ (fun i ys H' _ p => ⟨SqL.of (p.1 _ _ (e3 _ _ ha)), SqL.of (p.1 _ _ upd_same)⟩) ?_ ?_
        · rintro i ys H' T hi ⟨p, rfl⟩ hT
          have d1 : (xs.drop 1).getD i .non = xs.getD (i + 1) .non := by
            rw [List.getD_eq_getElem?_getD, List.getElem?_drop, List.getD_eq_getElem?_getD, Nat.add_comm]
          obtain ⟨s1, h1⟩ := nmV_str (hnm i (by omega))
          obtain ⟨s2, h2⟩ := nmV_str (hnm (i + 1) (by omega))
          refine ⟨T, _, rfl, SqT.of upd_same, rfl, _, _, rfl, _, _, rfl, rfl, ?_⟩
          refine ⟨Sle.set _ (Sle.set _ (Sle.refl _) (fun u z => by cases z)) (fun u z => by cases z), iteT (B := False) ⟨_, rfl, _, rfl, s1, s2, h1, d1.trans h2, ?_, nxt hi ⟨p.trans (Ext.new hT _), ?_⟩⟩⟩
          · rw [List.length_map, List.length_range]
            exact small1000 (by omega)
          · rw [List.range_succ, List.map_append, List.map_singleton, h1, h2]; rfl
        · rintro ys H' ⟨p, rfl⟩ r3 hr3
          refine ⟨r3, (List.range (xs.length - 1)).map fun i => ltV (xs.getD i .non) (xs.getD (i + 1) .non), rfl, ?_, q _ _ ?_ (e3.trans (p.trans (Ext.new hr3 _)))⟩
          · rw [List.map_map]; exact SqL.of upd_same
          · rw [List.all_map, List.all_eq_true]
            constructor
            · intro z
              exact ⟨hnm, fun i hi => z i (List.mem_range.mpr (by omega))⟩
            · intro z i hi
              exact z.2 i (by have := List.mem_range.mp hi; omega)
  · exact ⟨_, rfl, _, _, _, false, rfl, ty, kt, false, rfl, iteT (iteT q)⟩
end
end My
namespace My
open PySem L2
section
variable {P : Program} {w : World} {K : PySem.W.Frag} {mg : Str → Option Value} {base : Heap} {f f1 : Addr} {fd fd1 : FuncData}
end
end My
namespace My
open PySem L2
theorem tkN (K : PySem.W.Frag) : PySem.W.kitOne K (.type "NoneType") (.type "tuple") = some false := by kernel_rfl
theorem tkI (K : PySem.W.Frag) : PySem.W.kitOne K (.type "int") (.type "tuple") = some false := by kernel_rfl
theorem tkS (K : PySem.W.Frag) : PySem.W.kitOne K (.type "str") (.type "tuple") = some false := by kernel_rfl
theorem tkL (K : PySem.W.Frag) : PySem.W.kitOne K (.type "list") (.type "tuple") = some false := by kernel_rfl
def NotL (H : Hp) (x : V) : Prop := x = .non ∨ (∃ b, x = .bl b) ∨ (∃ i, x = .int i) ∨ (∃ s : Str, x = .str s) ∨ ∃ (a : Addr) (xs : List V), x = .ref a ∧ H a = some (.tup xs)
theorem NotL.ext {H H' : Hp} {x : V} (h : NotL H x) (e : Ext H H') : NotL H' x := by
  rcases h with h | h | h | h | ⟨a, xs, h1, h2⟩
  · exact .inl h
  · exact .inr (.inl h)
  · exact .inr (.inr (.inl h))
  · exact .inr (.inr (.inr (.inl h)))
  · exact .inr (.inr (.inr (.inr ⟨a, xs, h1, e _ _ h2⟩)))
theorem NotL.ty {H : Hp} {x : V} (K : PySem.W.Frag) (h : NotL H x) : ∃ t, TyOf K H x t ∧ PySem.W.kitOne K t (.type "list") = some false := by
  rcases h with rfl | ⟨b, rfl⟩ | ⟨i, rfl⟩ | ⟨s, rfl⟩ | ⟨a, xs, rfl, h2⟩
  · exact ⟨_, .non, (nk K).2⟩
  · exact ⟨_, .bl b, (bk K).2⟩
  · exact ⟨_, .int i, (ik K).2⟩
  · exact ⟨_, .str s, sk K⟩
  · exact ⟨_, .tup h2, (tk K).2⟩
def NotT (H : Hp) (x : V) : Prop := x = .non ∨ (∃ i, x = .int i) ∨ (∃ s : Str, x = .str s) ∨ ∃ (a : Addr) (xs : List V), x = .ref a ∧ H a = some (.lst xs)
theorem NotT.ext {H H' : Hp} {x : V} (h : NotT H x) (e : Ext H H') : NotT H' x := by
  rcases h with h | h | h | ⟨a, xs, h1, h2⟩
  · exact .inl h
  · exact .inr (.inl h)
  · exact .inr (.inr (.inl h))
  · exact .inr (.inr (.inr ⟨a, xs, h1, e _ _ h2⟩))
theorem NotT.ty {H : Hp} {x : V} (K : PySem.W.Frag) (h : NotT H x) : ∃ t, TyOf K H x t ∧ PySem.W.kitOne K t (.type "tuple") = some false := by
  rcases h with rfl | ⟨i, rfl⟩ | ⟨s, rfl⟩ | ⟨a, xs, rfl, h2⟩
  · exact ⟨_, .non, tkN K⟩
  · exact ⟨_, .int i, tkI K⟩
  · exact ⟨_, .str s, tkS K⟩
  · exact ⟨_, .lst h2, tkL K⟩
def RLk (H : Hp) (x : V) (o : Option (List V)) : Prop := (∃ (a : Addr) (xs : List V), o = some xs ∧ x = .ref a ∧ H a = some (.lst xs) ∧ xs.length ≤ 100 ∧ ∀ y ∈ xs, ∃ D, Item H y D) ∨ (o = none ∧ NotL H x)
theorem RLk.ext {H H' : Hp} {x : V} {o : Option (List V)} (h : RLk H x o) (e : Ext H H') : RLk H' x o := by
  rcases h with ⟨a, xs, h1, h2, h3, h4, h5⟩ | ⟨h1, h2⟩
  · exact .inl ⟨a, xs, h1, h2, e _ _ h3, h4, fun y hy => by obtain ⟨D, hD⟩ := h5 y hy; exact ⟨D, hD.ext e⟩⟩
  · exact .inr ⟨h1, h2.ext e⟩
def RowP (o : Option (List V)) : Prop := ∃ xs, o = some xs ∧ rowP xs
theorem rowLk {K : PySem.W.Frag} {H : Hp} {x : V} {o : Option (List V)} {Q E} (h : RLk H x o) (q : ∀ (b : Bool) H', (b = true ↔ RowP o) → Ext H H' → Q (.bl b) H') : spIsRow K [x] H Q E := by
  rcases h with ⟨a, xs, rfl, rfl, h3, h4, h5⟩ | ⟨rfl, h2⟩
  · refine ⟨_, rfl, .inl ⟨a, xs, rfl, h3, h4, h5, fun b H' e he => q b H' (e.trans ⟨fun z => ⟨xs, rfl, z⟩, fun ⟨ys, e1, z⟩ => ?_⟩) he⟩⟩
    cases e1; exact z
  · obtain ⟨t, ty, kt⟩ := h2.ty K
    exact ⟨_, rfl, .inr ⟨t, ty, kt, q false H ⟨fun z => (by cases z), fun ⟨ys, e1, z⟩ => (by cases e1)⟩ (Ext.refl _)⟩⟩
theorem RLk.ls {H : Hp} {x : V} {ss : List Str} (h : RLk H x (some (ss.map V.str))) : ∃ a, x = .ref a ∧ LsS H a ss := by
  rcases h with ⟨a, xs, h1, h2, h3, _⟩ | ⟨h1, _⟩
  · cases h1; exact ⟨a, h2, h3⟩
  · cases h1
end My
namespace My
open PySem L2
def enT (t : Tr) : List Str := [t.2.1, t.2.2]
def endsF (net : List Tr) : List Str := (net.map enT).flatten
theorem endsF_snoc (net : List Tr) (t : Tr) : endsF (net ++ [t]) = endsF net ++ enT t := by
  unfold endsF
  rw [List.map_append, List.flatten_append]
  simp
theorem endsF_len (net : List Tr) : (endsF net).length = 2 * net.length := by
  refine snoc_ind (P := fun net => (endsF net).length = 2 * net.length) rfl (fun l t ih => ?_) net
  rw [endsF_snoc, List.length_append, List.length_append, ih]
  show 2 * l.length + 2 = 2 * (l.length + 1)
  omega
section
variable {P : Program} {w : World} {K : PySem.W.Frag} {mg : Str → Option Value} {base : Heap} {f f1 f2 f3 : Addr} {fd fd1 fd2 fd3 : FuncData}
end
end My
namespace My
open PySem L2
section
variable {σ0 : St} {g : TG} {tt : TT} {te : TE} {Q : List V → Hp → Prop} {H1 : Hp}
theorem turns_tupl {K : PySem.W.Frag} {a : Addr} {xs : List V} (Pv : Nat → List V → Hp → Prop) (h0 : Pv 0 [] H1) (hl : ∀ i ys H, i ≤ xs.length → Pv i ys H → SqT K H a xs)
    (hs : ∀ i x ys H, xs[i]? = some x → Pv i ys H → g x σ0 H fun σ2 H2 => Sle σ0 σ2 ∧ tt σ2 H2 fun b H3 => if b = true then te σ2 H3 (fun v H4 => ys.length < sizeLine ∧ Nxt xs.length i Pv (ys ++ [v]) H4) else Nxt xs.length i Pv ys H3)
    (hd : ∀ ys H, Pv xs.length ys H → Q ys H) : cTurns (Itt K a) σ0 g tt te Q H1 := by
  refine ⟨fun i m ys H => m = xs.length - i ∧ i ≤ xs.length ∧ Pv i ys H, ⟨xs.length, by simp, Nat.zero_le _, h0⟩, ?_⟩
  rintro i m ys H ⟨rfl, hi, p⟩
  have q := hl i ys H hi p
  by_cases hlt : i < xs.length
  · refine .inr ⟨⟨xs, xs[i], q, by simp [hlt]⟩, fun x H' y => ?_⟩
    obtain ⟨e, y⟩ := y
    subst e
    exact hs i x ys _ (y xs q) p
  · have e : i = xs.length := by omega
    subst e
    exact .inl ⟨⟨xs, q, Nat.le_refl _⟩, hd ys H p⟩
end
theorem NetAt.snoc {H H' : Hp} {k a : Addr} {as : List Addr} {net : List Tr} {t : Tr} (hk : H k = some (.lst (as.map V.ref))) (pr : Paired (fun a t => H a = some (.tup (trV t))) as net) (e : Ext H H') (ha : H' a = some (.tup (trV t))) : NetAt (upd H' k (.lst (as.map V.ref ++ [V.ref a]))) k (net ++ [t]) := by
  have hk' := e _ _ hk
  have ne : ∀ {b : Addr} {xs : List V}, H' b = some (.tup xs) → b ≠ k := fun h z => by rw [z, hk'] at h; cases h
  refine ⟨as ++ [a], by rw [upd_same, List.map_append]; rfl, ?_⟩
  refine Paired.snoc (Paired.mapP pr fun b u z => ?_) ?_
  · have z' := e _ _ z
    rw [upd_ne (ne z')]; exact z'
  · rw [upd_ne (ne ha)]; exact ha
theorem boot_min' : bootBuiltins "min" = some (.builtin "min") := by decide +kernel
theorem boot_max' : bootBuiltins "max" = some (.builtin "max") := by decide +kernel
end My
namespace My
open PySem L2
theorem foldl_rep {c : Nat} : ∀ (n : Nat) (acc : Array Nat), ((List.replicate n #[c]).foldl (· ++ ·) acc).toList = acc.toList ++ List.replicate n c
  | 0, acc => by simp
  | n + 1, acc => by
    rw [List.replicate_succ, List.foldl_cons, foldl_rep n]
    simp [List.replicate_succ]
theorem mul_list {c : Nat} {n : Int} (h : 0 ≤ n) : (Txt.mul ⟨#[c]⟩ n).cps.toList = List.replicate n.toNat c := by
  unfold Txt.mul
  by_cases h1 : n < 1
  · rw [if_pos h1, show n.toNat = 0 by omega]; rfl
  · rw [if_neg h1]
    by_cases h2 : n = 1
    · subst h2; rfl
    · have e : (n == 1 || (⟨#[c]⟩ : Str).length == 0) = false := by
        rw [Bool.or_eq_false_iff]
        exact ⟨by simpa using h2, rfl⟩
      rw [if_neg (by rw [e]; decide)]
      exact foldl_rep n.toNat #[]
theorem mul_len {c : Nat} {n : Int} (hn : 0 ≤ n) : (Txt.mul ⟨#[c]⟩ n).length = n.toNat := by
  have := congrArg List.length (mul_list (c := c) hn)
  rw [List.length_replicate] at this
  exact this
theorem at_intM {hs : List Int} {i : Int} (h0 : 0 ≤ i) (h1 : i < (hs.length : Int)) : ∃ v ∈ hs, atI (hs.map V.int) i = some (.int v) := by
  have hk : i.toNat < hs.length := by omega
  have hv : atI (hs.map V.int) ((i.toNat : Nat) : Int) = some (.int hs[i.toNat]) := atI_nat (by rw [List.getElem?_map, List.getElem?_eq_getElem hk] <;> rfl)
  rw [Int.toNat_of_nonneg h0] at hv
  exact ⟨_, List.getElem_mem hk, hv⟩
theorem at_strM {hs : List Str} {i : Int} (h0 : 0 ≤ i) (h1 : i < (hs.length : Int)) : ∃ v ∈ hs, atI (hs.map V.str) i = some (.str v) := by
  have hk : i.toNat < hs.length := by omega
  have hv : atI (hs.map V.str) ((i.toNat : Nat) : Int) = some (.str hs[i.toNat]) := atI_nat (by rw [List.getElem?_map, List.getElem?_eq_getElem hk] <;> rfl)
  rw [Int.toNat_of_nonneg h0] at hv
  exact ⟨_, List.getElem_mem hk, hv⟩
theorem emod_of (a : Int) {n : Int} (h : 0 < n) : 0 ≤ a % n ∧ a % n < n := ⟨Int.emod_nonneg _ (by omega), Int.emod_lt_of_pos _ h⟩
def spBig (K : PySem.W.Frag) : Sp := fun vs H Q _ => ∃ (a : Addr) (ns : List Int) (k : Int), vs = [.ref a, .int k] ∧ SqL K H a (ns.map V.int) ∧ 0 ≤ k ∧ k ≤ 100 ∧ ∀ v H', Ext H H' → Q (.int v) H'
def Tx (ss : List Str) : Prop := ∀ s ∈ ss, Named s
def spNames : Sp := fun vs H Q _ => ∃ (b n : Int), vs = [.int b, .int n] ∧ 0 ≤ n ∧ n ≤ 100 ∧ ∀ (r : Addr) (ss : List Str) (H' : Hp), Ext H H' → H r = none → LsS H' r ss → ss.length = n.toNat → Tx ss → Q (.ref r) H'
abbrev by8 : List Int := [48271, 69621, 16807, 39373, 21401, 60493, 87721, 31337]
abbrev pr8 : List Int := [99991, 99989, 99971, 99961, 99929, 99923, 99907, 99901]
section
variable {P : Program} {w : World} {K : PySem.W.Frag} {mg : Str → Option Value} {base : Heap} {f f1 f2 : Addr} {fd fd1 fd2 : FuncData}
abbrev bgN : List Str := ["_law_script", "_law_at", "_law_by", "_law_prime", "_law_cell", "_law_big_here", "_law_k", "_law_one"]
theorem scBig : FnScope bgN ["_law_script", "_law_at"] (defScope sBig) := ⟨rfl, rfl, rfl, by decide +kernel, rfl, by decide +kernel, by decide +kernel⟩
set_option maxHeartbeats 4000000 in
theorem ok_big (F : Fun K "_law_big" "_law_big" sBig f fd) (G : FnOk P w K mg base CX0 1 f1 fd1 ["_law_script", "_law_k"] (spCell K)) (bG : Binds K fd1 ["_law_script", "_law_k"] []) (kG : PySem.W.keepIn K (.ref f1) = true) (mG : mg "_law_cell_at" = some (.ref f1)) (mr : mg "range" = none) :
    FnOk P w K mg base CX0 2 f fd ["_law_script", "_law_at"] (spBig K) := by
  refine F.ok scBig (fun vs H Q E h => ?_) (fun cdv A outer s H vs Q E hr h => ?_)
  · obtain ⟨a, ns, k, rfl, _⟩ := h
    rfl
  obtain ⟨a, ns, k, rfl, hS, h0, h1, q⟩ := h
  refine ⟨_, pss_cons (ps_set (i := 2) scBig.nd rfl (Or.inl rfl) (pe_tup (pa_cons pe_int (pa_cons pe_int (pa_cons pe_int (pa_cons pe_int (pa_cons pe_int (pa_cons pe_int (pa_cons pe_int (pa_cons pe_int pa_nil))))))))))
    (pss_cons (ps_set (i := 3) scBig.nd rfl (Or.inl rfl) (pe_tup (pa_cons pe_int (pa_cons pe_int (pa_cons pe_int (pa_cons pe_int (pa_cons pe_int (pa_cons pe_int (pa_cons pe_int (pa_cons pe_int pa_nil))))))))))
    (pss_cons (ps_set (i := 4) scBig.nd rfl (Or.inl rfl) (pe_call G hr rfl mG kG bG .nil pass0 (pa_cons (pv 0) (pa_cons (pv 1) pa_nil))))
    (pss_cons (ps_if (pt_cmpR op_ge (pv 4) (pe_op op_pow pe_int pe_int) (nomark _)) (pss_one (ps_ret (pv 4))) pss_nil)
    (pss_cons (ps_set (i := 5) scBig.nd rfl (Or.inl rfl) pe_int)
    (pss_cons (ps_for PassesOwn.never rfl (pi_range1 rfl mr (pa_cons pe_int pa_nil)) (pg_name (i := 6) scBig.nd rfl (Or.inl rfl))
      (pss_cons (ps_set (i := 7) scBig.nd rfl (Or.inl rfl) (pe_op op_add (pe_op op_add (pe_op op_mod (pe_call G hr rfl mG kG bG .nil pass0 (pa_cons (pv 0) (pa_cons (pe_op op_add (pv 1) (pe_op op_mod (pv 6) pe_int)) pa_nil))) (pe_op op_pow pe_int pe_int)) pe_int) (pe_op op_mul (pv 6) (pv 6))))
      (pss_one (ps_set (i := 5) scBig.nd rfl (Or.inl rfl) (pe_op op_add (pe_op op_mul (pv 5) pe_int) (pe_op op_mod (pe_op op_mod (pe_op op_mul (pv 7) (pe_ix ix_tup (pv 2) (pe_op op_mod (pv 6) pe_int) (fun _ _ => rfl))) (pe_ix ix_tup (pv 3) (pe_op op_mod (pv 6) pe_int) (fun _ _ => rfl))) pe_int))))))
    (pss_one (ps_ret (pv 5)))))))), ?_⟩
  try dsimp only [Cx.wish, cxOf]
  refine ⟨(by show 8 ≤ sizeLine; decide), fun T1 hT1 => ⟨(by show 8 ≤ sizeLine; decide), fun T2 hT2 => ?_⟩⟩
  have X1 := Ext.new hT1 (.tup (by8.map V.int))
  have X2 := X1.trans (Ext.new hT2 (.tup (pr8.map V.int)))
  have t1 : upd (upd H T1 (.tup (by8.map V.int))) T2 (.tup (pr8.map V.int)) T1 = some (.tup (by8.map V.int)) := (Ext.new hT2 _) _ _ upd_same
  have t2 : upd (upd H T1 (.tup (by8.map V.int))) T2 (.tup (pr8.map V.int)) T2 = some (.tup (pr8.map V.int)) := upd_same
  change Ext H (upd (upd H T1 (.tup (by8.map V.int))) T2 (.tup (pr8.map V.int))) at X2
  refine ⟨_, rfl, _, rfl, a, ns, k, rfl, X2.sqL hS, h0, fun v => ?_⟩
  refine ⟨_, rfl, _, _, rfl, rfl, ⟨by decide, by decide, by decide⟩, _, _, rfl, rfl, _, rfl, ?_⟩
  refine ite2 (fun c => ⟨_, rfl, q _ _ X2⟩) (fun c => ?_)
  refine ⟨60, rfl, by decide, by decide, for_range (lo := 0) (n := 60) (fun i σ H' => H' = upd (upd H T1 (.tup (by8.map V.int))) T2 (.tup (pr8.map V.int)) ∧ ∃ (x : Int) (y z : Option V), σ = [some (.ref a), some (.int k), some (.ref T1), some (.ref T2), some (.int v), some (.int x), y, z]) ⟨rfl, 0, none, none, rfl⟩ ?_ ?_⟩
  · rintro i σ H' hi ⟨rfl, x, y, z, rfl⟩
    obtain ⟨a0, a1⟩ := emod_of (0 + (i : Int)) (show (0 : Int) < 9 by decide)
    obtain ⟨b0, b1⟩ := emod_of (0 + (i : Int)) (show (0 : Int) < 8 by decide)
    obtain ⟨u, um, ua⟩ := at_intM (hs := by8) b0 (by show _ < (8 : Int); exact b1)
    obtain ⟨u2, um2, ua2⟩ := at_intM (hs := pr8) b0 (by show _ < (8 : Int); exact b1)
    have ub : -(2 ^ 64) < u ∧ u < 2 ^ 64 := by
      have : ∀ z ∈ by8, -(2 ^ 64) < z ∧ z < 2 ^ 64 := by decide
      exact this u um
    have up : 0 < u2 := by
      have : ∀ z ∈ pr8, 0 < z := by decide
      exact this u2 um2
    refine ⟨_, rfl, _, rfl, _, rfl, _, _, rfl, rfl, (by show (0 : Int) < _; decide), _, _, rfl, rfl, a, ns, _, rfl, X2.sqL hS, by omega, fun v1 => ?_⟩
    refine ⟨_, _, rfl, rfl, ⟨by decide, by decide, by decide⟩, _, _, rfl, rfl, (by show (0 : Int) < _; decide), _, _, rfl, rfl, _, rfl, _, rfl, _, _, rfl, rfl, .inl ⟨by omega, by omega⟩, _, _, rfl, rfl, ?_⟩
    refine ⟨_, rfl, _, _, rfl, rfl, .inr ⟨by decide, by decide⟩, _, rfl, _, rfl, _, rfl, _, _, rfl, rfl, (by show (0 : Int) < _; decide), T1, _, _, _, rfl, rfl, SqT.of t1, ua, _, _, rfl, rfl, .inr ⟨by omega, by omega⟩, ?_⟩
    refine ⟨_, rfl, _, rfl, _, _, rfl, rfl, (by show (0 : Int) < _; decide), T2, _, _, _, rfl, rfl, SqT.of t2, ua2, _, _, rfl, rfl, up, _, _, rfl, rfl, (by show (0 : Int) < _; decide), _, _, rfl, rfl, ?_⟩
    exact ⟨rfl, _, _, _, rfl⟩
  · rintro σ H' ⟨rfl, x, y, z, rfl⟩
    exact ⟨_, rfl, q _ _ X2⟩
abbrev naN : List Str := ["_law_stem", "_law_many", "_law_signs", "_law_size", "_law_spot", "_law_names_here", "_law_v", "_law_name", "_law_k", "_law_turn"]
theorem scNames : FnScope naN ["_law_stem", "_law_many"] (defScope sNames) := ⟨rfl, rfl, rfl, by decide +kernel, rfl, by decide +kernel, by decide +kernel⟩
theorem Sgd.mul {i : Nat} {n : Int} (hi : i < 36) (hn : 0 ≤ n) : Sgd (Txt.mul ⟨#[sgC i]⟩ n) := fun d hd => by
  rw [mul_list hn] at hd
  rw [(List.mem_replicate.mp hd).2]; exact sgC_mem hi
set_option maxHeartbeats 4000000 in
theorem ok_names (F : Fun K "_law_names" "_law_names" sNames f fd) (mr : mg "range" = none) : FnOk P w K mg base CX0 1 f fd ["_law_stem", "_law_many"] spNames := by
  refine F.ok scNames (fun vs H Q E h => ?_) (fun cdv A outer s H vs Q E hr h => ?_)
  · obtain ⟨b, n, rfl, _⟩ := h
    rfl
  obtain ⟨b, n, rfl, n0, n1, q⟩ := h
  refine ⟨_, (pss_cons (ps_set (i := 2) scNames.nd rfl (Or.inl rfl) pe_str) (pss_cons (ps_set (i := 3) scNames.nd rfl (Or.inl rfl) (pe_op op_add pe_int (pe_op op_mod (pv 0) pe_int))) (pss_cons (ps_set (i := 4) scNames.nd rfl (Or.inl rfl) (pe_op op_mod (pe_op op_fdiv (pv 0) pe_int) (pv 3))) (pss_cons (ps_set (i := 5) scNames.nd rfl (Or.inl rfl) (pe_lst pa_nil)) (pss_cons (ps_for PassesOwn.never rfl (pi_range1 rfl mr (pa_cons (pv 1) pa_nil)) (pg_name (i := 6) scNames.nd rfl (Or.inl rfl)) (pss_cons (ps_set (i := 7) scNames.nd rfl (Or.inl rfl) pe_str) (pss_cons (ps_for PassesOwn.never rfl (pi_range1 rfl mr (pa_cons (pv 3) pa_nil)) (pg_name (i := 8) scNames.nd rfl (Or.inl rfl)) (pss_cons (ps_set (i := 9) scNames.nd rfl (Or.inl rfl) (pe_op op_add (pe_op op_fdiv (pv 0) pe_int) (pe_op op_mul (pv 8) (pe_op op_mod (pe_op op_fdiv (pv 0) pe_int) pe_int)))) (pss_cons (ps_if (pt_cmpR op_eq (pv 8) (pv 4) (nomark _)) (pss_one (ps_set (i := 9) scNames.nd rfl (Or.inl rfl) (pe_op op_add (pv 9) (pv 6)))) pss_nil) (pss_one (ps_set (i := 7) scNames.nd rfl (Or.inl rfl) (pe_op op_add_str (pv 7) (pe_ix ix_str (pv 2) (pe_op op_mod (pv 9) pe_int) (fun _ _ => rfl)))))))) (pss_cons (ps_if (pt_cmpR op_eq (pe_op op_mod (pv 0) pe_int) pe_int (nomark _)) (pss_one (ps_set (i := 7) scNames.nd rfl (Or.inl rfl) (pe_op op_mul_str (pe_ix ix_str (pv 2) (pe_op op_mod (pe_op op_add (pe_op op_fdiv (pv 0) pe_int) (pe_op op_fdiv (pv 6) pe_int)) pe_int) (fun _ _ => rfl)) (pe_op op_add pe_int (pe_op op_mod (pv 6) pe_int))))) pss_nil) (pss_one (ps_expr (pe_bm PySem.F.plainAttrs_list PySem.F.slot_list_append PySem.F.type_list_append mt_append (pv 5) (pa_cons (pv 7) pa_nil)))))))) (pss_one (ps_ret (pv 5)))))))), ?_⟩
  try dsimp only [Cx.wish, cxOf]
  obtain ⟨s0, s1⟩ := emod_of b (show (0 : Int) < 6 by decide)
  refine ⟨_, rfl, _, _, rfl, rfl, (by show (0 : Int) < _; decide), _, _, rfl, rfl, ?_⟩
  refine ⟨_, rfl, _, _, rfl, rfl, ⟨by decide, by decide⟩, _, rfl, _, _, rfl, rfl, (by show (0 : Int) < _; omega), ?_⟩
  refine ⟨Nat.zero_le _, fun L hL => ?_⟩
  have X1 := Ext.new hL (.lst [])
  refine ⟨_, rfl, n, rfl, by omega, by omega, ?_⟩
  refine for_range (lo := 0) (n := n.toNat) (fun i σ H' => ∃ (ss : List Str) (sp : Int) (x6 x7 x8 x9 : Option V), σ = [some (.int b), some (.int n), some (.str sg), some (.int (1 + b % 6)), some (.int sp), some (.ref L), x6, x7, x8, x9] ∧ Ext H H' ∧ LsS H' L ss ∧ ss.length = i ∧ Tx ss) ⟨[], _, none, none, none, none, rfl, X1, upd_same, rfl, fun s h => (by cases h)⟩ ?_ ?_
  · rintro i σ H' hi ⟨ss, sp, x6, x7, x8, x9, rfl, e, hs, ls, tx⟩
    refine ⟨_, rfl, 1 + b % 6, rfl, by omega, by omega, ?_⟩
    refine for_range (lo := 0) (n := (1 + b % 6).toNat) (fun k σ H2 => H2 = H' ∧ ∃ (nm : Str) (x8 x9 : Option V), σ = [some (.int b), some (.int n), some (.str sg), some (.int (1 + b % 6)), some (.int sp), some (.ref L), some (.int (0 + (i : Int))), some (.str nm), x8, x9] ∧ nm.length = k ∧ Sgd nm) ⟨rfl, "", _, _, rfl, rfl, Sgd.nil⟩ ?_ ?_
    · rintro k σ H2 hk ⟨rfl, nm, y8, y9, rfl, ln, sg'⟩
      obtain ⟨d0, d1⟩ := emod_of (b / 7) (show (0 : Int) < 5 by decide)
      refine ⟨_, rfl, _, _, rfl, rfl, ⟨by decide, by decide⟩, _, rfl, _, rfl, _, _, rfl, rfl, ⟨by decide, by decide⟩, _, _, rfl, rfl, (by show (0 : Int) < _; decide), _, _, rfl, rfl, .inr ⟨by omega, by omega⟩, _, _, rfl, rfl, ?_⟩
      have key : ∀ tn : Int, (tAsg (tOp (fun x y H Q => ∃ i j, x = .str i ∧ y = .str j ∧ i.length + j.length ≤ sizeLine ∧ Q (.str (i ++ j)) H) (tVar 7) (tOp rIxS (tVar 2) (tOp (rI (fun _ j => 0 < j) fun i j => V.int (i % j)) (tVar 9) (tC (.int 36))))) (gName 7)) = (tAsg (tOp (fun x y H Q => ∃ i j, x = .str i ∧ y = .str j ∧ i.length + j.length ≤ sizeLine ∧ Q (.str (i ++ j)) H) (tVar 7) (tOp rIxS (tVar 2) (tOp (rI (fun _ j => 0 < j) fun i j => V.int (i % j)) (tVar 9) (tC (.int 36))))) (gName 7)) := fun _ => rfl
      clear key
      have fin : ∀ tn : Int, ∃ c : Nat, c < 36 ∧ atI sg.cps.toList (tn % 36) = some (sgC c) := fun tn => by
        obtain ⟨f0, f1⟩ := emod_of tn (show (0 : Int) < 36 by decide)
        exact ⟨(tn % 36).toNat, by omega, sg_at f0 f1⟩
      have wl : ∀ c : Nat, nm.length + (⟨#[sgC c]⟩ : Str).length ≤ sizeLine := fun c => Nat.le_of_lt (small1000 (by show nm.length + 1 ≤ 1000; omega))
      refine ⟨_, rfl, _, rfl, rfl, _, rfl, ite2 (fun c => ?_) (fun c => ?_)⟩
      · refine ⟨_, rfl, _, rfl, _, _, rfl, rfl, ?_⟩
        obtain ⟨ci, c36, ca⟩ := fin (b / 64 + (0 + (k : Int)) * (b / 7 % 5) + (0 + (i : Int)))
        refine ⟨_, rfl, _, rfl, _, rfl, _, _, rfl, rfl, (by show (0 : Int) < _; decide), sg, _, _, rfl, rfl, (by decide +kernel), ca, nm, _, rfl, rfl, wl ci, rfl, nm ++ ⟨#[sgC ci]⟩, _, _, rfl, ?_, sg'.app (Sgd.one c36)⟩
        rw [Str.length_append, ln]; rfl
      · obtain ⟨ci, c36, ca⟩ := fin (b / 64 + (0 + (k : Int)) * (b / 7 % 5))
        refine ⟨_, rfl, _, rfl, _, rfl, _, _, rfl, rfl, (by show (0 : Int) < _; decide), sg, _, _, rfl, rfl, (by decide +kernel), ca, nm, _, rfl, rfl, wl ci, rfl, nm ++ ⟨#[sgC ci]⟩, _, _, rfl, ?_, sg'.app (Sgd.one c36)⟩
        rw [Str.length_append, ln]; rfl
    · rintro σ H2 ⟨rfl, nm, y8, y9, rfl, ln, sg'⟩
      have done : ∀ nm : Str, Named nm → ∃ (ss' : List Str) (sp' : Int) (x6 x7 x8 x9 : Option V), ([some (.int b), some (.int n), some (.str sg), some (.int (1 + b % 6)), some (.int sp), some (.ref L), some (.int (0 + (i : Int))), some (.str nm), y8, y9] : St) = [some (.int b), some (.int n), some (.str sg), some (.int (1 + b % 6)), some (.int sp'), some (.ref L), x6, x7, x8, x9] ∧ Ext H (upd H2 L (.lst (ss.map V.str ++ [.str nm]))) ∧ LsS (upd H2 L (.lst (ss.map V.str ++ [.str nm]))) L ss' ∧ ss'.length = i + 1 ∧ Tx ss' := fun nm hn => by
        refine ⟨ss ++ [nm], sp, _, _, _, _, rfl, e.over hL _, ?_, by rw [List.length_append, ls]; rfl, fun s hs' => ?_⟩
        · unfold LsS; rw [upd_same, List.map_append]; rfl
        · rcases List.mem_append.mp hs' with z | z
          · exact tx s z
          · rw [List.mem_singleton] at z; subst z; exact hn
      have ll : (ss.map V.str).length < sizeLine := by rw [List.length_map]; exact small1000 (by omega)
      refine ⟨_, rfl, _, _, rfl, rfl, (by show (0 : Int) < _; decide), rfl, _, rfl, ite2 (fun c => ?_) (fun c => ?_)⟩
      · obtain ⟨g0, g1⟩ := emod_of (b / 64 + (0 + (i : Int)) / 6) (show (0 : Int) < 36 by decide)
        obtain ⟨v0, v1⟩ := emod_of (0 + (i : Int)) (show (0 : Int) < 6 by decide)
        refine ⟨_, rfl, _, rfl, _, _, rfl, rfl, ⟨by decide, by decide⟩, _, rfl, _, _, rfl, rfl, ⟨by decide, by decide⟩, _, _, rfl, rfl, _, _, rfl, rfl, (by show (0 : Int) < _; decide), sg, _, _, rfl, rfl, (by decide +kernel), sg_at g0 g1, ?_⟩
        refine ⟨_, rfl, _, _, rfl, rfl, (by show (0 : Int) < _; decide), _, _, rfl, rfl, _, _, rfl, rfl, (by show 1 ≤ 100; decide), by omega, by omega, ?_⟩
        refine ⟨_, rfl, .inl ⟨rfl, _, SqL.of hs⟩, _, rfl, L, _, _, rfl, rfl, hs, ll, done _ ⟨Sgd.mul (by omega) (by omega), ?_, ?_⟩⟩
        · rw [mul_len (by omega)]; omega
        · rw [mul_len (by omega)]; omega
      · refine ⟨_, rfl, .inl ⟨rfl, _, SqL.of hs⟩, _, rfl, L, _, _, rfl, rfl, hs, ll, done _ ⟨sg', by omega, by omega⟩⟩
  · rintro σ H' ⟨ss, sp, x6, x7, x8, x9, rfl, e, hs, ls, tx⟩
    exact ⟨_, rfl, q L ss H' e hL hs ls tx⟩
end
end My
namespace My
open PySem L2
theorem boot_int' : bootBuiltins "int" = some (.type "int") := by decide +kernel
theorem paired_map {α β γ : Type} {R : α → β → Prop} {S : α → γ → Prop} (g : β → γ) (h : ∀ a b, R a b → S a (g b)) : ∀ {as : List α} {bs : List β}, Paired R as bs → Paired S as (bs.map g)
  | _, _, .nil => .nil
  | _, _, .cons x t => .cons (h _ _ x) (paired_map g h t)
def rowT (t : Tr) : List Str := [t.1, t.2.1, t.2.2]
def t0 : Tr := ("", "", "")
theorem net_pick {H : Hp} : ∀ {as : List Addr} {net : List Tr} {i : Nat}, Paired (fun a t => H a = some (.tup (trV t))) as net → i < as.length → H (as.getD i 0) = some (.tup (trV (net.getD i t0)))
  | _, _, i, .nil, hi => absurd hi (Nat.not_lt_zero _)
  | _, _, 0, .cons h _, _ => h
  | _, _, i + 1, .cons _ t, hi => by simpa using net_pick (i := i) t (by simpa using hi)
theorem net_picks {H : Hp} {as : List Addr} {net : List Tr} (pr : Paired (fun a t => H a = some (.tup (trV t))) as net) : ∀ {l : List Nat}, (∀ i ∈ l, i < as.length) → Paired (fun a t => H a = some (.tup (trV t))) (l.map fun i => as.getD i 0) (l.map fun i => net.getD i t0)
  | [], _ => .nil
  | i :: l, h => .cons (net_pick pr (h i List.mem_cons_self)) (net_picks pr fun j hj => h j (List.mem_cons_of_mem _ hj))
def leB (x y : Str) : Bool := !decide (y.cps.toList < x.cps.toList)
theorem srt2 {x y : Str} (h : PyProof.Rows.sortedS [x, y] = true) : leB x y = true := by
  have h' : (!PySem.Spec.ltCps y.cps.toList x.cps.toList && true) = true := h
  rw [Bool.and_true, PyProof.Rows.ltCps_eq] at h'
  exact h'
def TxT (t : Tr) : Prop := Named t.1 ∧ Named t.2.1 ∧ Named t.2.2 ∧ leB t.2.1 t.2.2 = true
def TxN (net : List Tr) : Prop := ∀ t ∈ net, TxT t
def spJoined : Sp := fun vs H Q _ => ∃ (p : Addr) (hs : List Int) (i j : Int), vs = [.ref p, .int i, .int j] ∧ H p = some (.lst (hs.map V.int)) ∧ hs.length ≤ 20 ∧ 0 ≤ i ∧ i < (hs.length : Int) ∧ 0 ≤ j ∧ j < (hs.length : Int) ∧ ∀ (r : Addr) (hs' : List Int) (H' : Hp), Ext H H' → H r = none → H' r = some (.lst (hs'.map V.int)) → hs'.length = hs.length → Q (.ref r) H'
def spNetBy : Sp := fun vs H Q _ => ∃ (b m st : Int), vs = [.int b, .int m, .int st] ∧ 0 ≤ m ∧ m ≤ 12 ∧ ∀ r net H', Ext H H' → H r = none → NetAt H' r net → net.length ≤ 12 → TxN net → Q (.ref r) H'
def spDrawn (K : PySem.W.Frag) : Sp := fun vs H Q _ => ∃ (a : Addr) (ns : List Int), vs = [.ref a, .int 0] ∧ SqL K H a (ns.map V.int) ∧ ∀ r net H', Ext H H' → H r = none → NetAt H' r net → net.length ≤ 12 → TxN net → Q (.ref r) H'
section
variable {P : Program} {w : World} {K : PySem.W.Frag} {mg : Str → Option Value} {base : Heap} {f f1 f2 : Addr} {fd fd1 fd2 : FuncData}
theorem scJoined : FnScope ["_law_piece", "_law_one", "_law_other"] ["_law_piece", "_law_one", "_law_other"] (defScope sJoined) := ⟨rfl, rfl, rfl, by decide +kernel, rfl, by decide +kernel, by decide +kernel⟩
set_option maxHeartbeats 4000000 in
theorem ok_joined (F : Fun K "_law_joined" "_law_joined" sJoined f fd) (mint : mg "int" = none) : FnOk P w K mg base CX0 1 f fd ["_law_piece", "_law_one", "_law_other"] spJoined := by
  refine F.ok scJoined (fun vs H Q E h => ?_) (fun cdv A outer s H vs Q E hr h => ?_)
  · obtain ⟨p, hs, i, j, rfl, _⟩ := h
    rfl
  obtain ⟨p, hs, i, j, rfl, hp, hl, i0, i1, j0, j1, q⟩ := h
  refine ⟨_, (pss_one (ps_ret (pe_lc (N := ["_law_piece", "_law_one", "_law_other"]) (sc := defScope sJoined) (N' := ["_law_mark", "_law_piece", "_law_one", "_law_other"]) (sub := [none, some 0, some 1, some 2]) rfl rfl (CmpOk.of (by decide +kernel)) rfl (pi_list (pv 0))
      (fun C s H fp => ⟨pg_name (i := 0) (by show (["_law_mark", "_law_piece", "_law_one", "_law_other"] : List Str).Nodup; decide) rfl (Or.inl rfl), pts_nil, (pe_ix (show IxR _ (rIxL K) from ix_list) (pe_lst (pa_cons (pv 0) (pa_cons (pe_ix (show IxR _ (rIxL K) from ix_list) (pv 1) (pv 2) (fun _ _ => rfl)) pa_nil))) (pe_callTy call_int1 rfl mint boot_int' (pa_cons (pe_cmpR op_eq (pv 0) (pe_ix (show IxR _ (rIxL K) from ix_list) (pv 1) (pv 3) (fun _ _ => rfl)) (nomark _)) pa_nil)) (fun _ _ => rfl))⟩)))), ?_⟩
  try dsimp only [Cx.wish, cxOf]
  obtain ⟨u, um, ua⟩ := at_intM (hs := hs) i0 i1
  obtain ⟨v, vm, va⟩ := at_intM (hs := hs) j0 j1
  refine ⟨_, rfl, p, rfl, ⟨_, SqL.of hp⟩, ?_⟩
  refine turns_list (xs := hs.map V.int) (fun k ys H2 => Ext H H2 ∧ ∃ hs' : List Int, ys = hs'.map V.int ∧ hs'.length = k) ⟨Ext.refl _, [], rfl, rfl⟩ (fun k ys H2 _ h => SqL.of (h.1 _ _ hp)) ?_ ?_
  · rintro k x ys H2 hx ⟨e, hs', rfl, ll⟩
    obtain ⟨y, rfl⟩ : ∃ y, x = .int y := by
      obtain ⟨y, _, rfl⟩ := List.mem_map.mp (List.mem_of_getElem? hx)
      exact ⟨y, rfl⟩
    have hk := at_lt hx
    rw [List.length_map] at hk
    have lz : (hs'.map V.int).length < sizeLine := by rw [List.length_map]; exact small1000 (by omega)
    refine ⟨Sle.set _ (Sle.refl _) (fun u z => by cases z), iteT (B := False) ?_⟩
    refine ⟨_, rfl, _, rfl, _, rfl, p, _, _, _, rfl, rfl, SqL.of (e _ _ hp), ua, (by show 2 ≤ sizeLine; decide), fun L hL => ?_⟩
    have X1 := Ext.new hL (.lst [V.int y, V.int u])
    refine ⟨_, rfl, _, rfl, _, rfl, p, _, _, _, rfl, rfl, SqL.of (X1 _ _ (e _ _ hp)), va, rfl, .inr ⟨_, rfl, ?_⟩⟩
    have fin : ∀ z : Int, Nxt (hs.map V.int).length k (fun k ys H2 => Ext H H2 ∧ ∃ hs' : List Int, ys = hs'.map V.int ∧ hs'.length = k) (hs'.map V.int ++ [V.int z]) (upd H2 L (.lst [V.int y, V.int u])) := fun z => nxt (at_lt hx) ⟨e.trans X1, hs' ++ [z], by rw [List.map_append]; rfl, by rw [List.length_append, ll]; rfl⟩
    by_cases c : y = v
    · refine ⟨L, [V.int y, V.int u], 1, _, rfl, ?_, SqL.of upd_same, (by exact atI_nat (j := 1) rfl), lz, fin _⟩
      rw [decide_eq_true (by rw [c])]; rfl
    · refine ⟨L, [V.int y, V.int u], 0, _, rfl, ?_, SqL.of upd_same, (by exact atI_nat (j := 0) rfl), lz, fin _⟩
      rw [decide_eq_false (fun z => c (V.int.inj z))]; rfl
  · rintro ys H2 ⟨e, hs', rfl, ll⟩ r hr'
    rw [List.length_map] at ll
    exact q r hs' _ (e.trans (Ext.new hr' _)) (e.none hr') upd_same ll
abbrev nbN : List Str := ["_law_big_here", "_law_most", "_law_stem", "_law_many", "_law_names_here", "_law_ties", "_law_piece", "_law_tall", "_law_net", "_law_k", "_law_one", "_law_other", "_law_fresh", "_law_ends"]
theorem scNetBy : FnScope nbN ["_law_big_here", "_law_most", "_law_stem"] (defScope sNetBy) := ⟨rfl, rfl, rfl, by decide +kernel, rfl, by decide +kernel, by decide +kernel⟩
structure NI (H : Hp) (m st k : Int) (i : Nat) (σ : St) (H' : Hp) (pc nl nh tl : Addr) (hs : List Int) (net : List Tr) (ss ts : List Str) : Prop where
  st : ∃ (b ta : Int) (x9 x10 x11 x12 x13 : Option V), σ = [some (.int b), some (.int m), some (.int st), some (.int k), some (.ref nh), some (.ref tl), some (.ref pc), some (.int ta), some (.ref nl), x9, x10, x11, x12, x13]
  ext : Ext H H'
  pcA : H' pc = some (.lst (hs.map V.int))
  hsl : (hs.length : Int) = k
  nt : NetAt H' nl net
  nl0 : H nl = none
  pn : pc ≠ nl
  ln : net.length ≤ i
  tx : TxN net
  nhn : nh ≠ nl
  tln : tl ≠ nl
  nhA : LsS H' nh ss
  tlA : LsS H' tl ts
set_option maxHeartbeats 16000000 in
theorem ok_netby (F : Fun K "_law_net_by" "_law_net_by" sNetBy f fd) (G1 : FnOk P w K mg base CX0 1 f1 fd1 ["_law_stem", "_law_many"] spNames) (bG1 : Binds K fd1 ["_law_stem", "_law_many"] []) (kG1 : PySem.W.keepIn K (.ref f1) = true) (mG1 : mg "_law_names" = some (.ref f1))
    (G2 : FnOk P w K mg base CX0 1 f2 fd2 ["_law_piece", "_law_one", "_law_other"] spJoined) (bG2 : Binds K fd2 ["_law_piece", "_law_one", "_law_other"] []) (kG2 : PySem.W.keepIn K (.ref f2) = true) (mG2 : mg "_law_joined" = some (.ref f2))
    (mr : mg "range" = none) (ml : mg "len" = none) (mL : mg "list" = none) (mint : mg "int" = none) (mso : mg "sorted" = none) : FnOk P w K mg base CX0 2 f fd ["_law_big_here", "_law_most", "_law_stem"] spNetBy := by
  refine F.ok scNetBy (fun vs H Q E h => ?_) (fun cdv A outer s H vs Q E hr1 h => ?_)
  · obtain ⟨b, m, st, rfl, _⟩ := h
    rfl
  obtain ⟨b, m, st, rfl, m0, m1, q⟩ := h
  refine ⟨_, (pss_cons (ps_set (i := 3) scNetBy.nd rfl (Or.inl rfl) (pe_op op_add pe_int (pe_op op_mod (pv 0) pe_int))) (pss_cons (ps_set (i := 4) scNetBy.nd rfl (Or.inl rfl) (pe_call G1 hr1 rfl mG1 kG1 bG1 .nil pass0 (pa_cons (pv 2) (pa_cons (pv 3) pa_nil)))) (pss_cons (ps_set (i := 5) scNetBy.nd rfl (Or.inl rfl) (pe_call G1 hr1 rfl mG1 kG1 bG1 .nil pass0 (pa_cons (pe_op op_add (pe_op op_fdiv (pv 2) pe_int) pe_int) (pa_cons pe_int pa_nil)))) (pss_cons (ps_set (i := 6) scNetBy.nd rfl (Or.inl rfl) (pe_callTy (call_list_rng rfl) rfl mL boot_list' (pa_cons (pe_callTy call_range1' rfl mr boot_range' (pa_cons (pv 3) pa_nil)) pa_nil))) (pss_cons (ps_set (i := 7) scNetBy.nd rfl (Or.inl rfl) pe_int) (pss_cons (ps_set (i := 8) scNetBy.nd rfl (Or.inl rfl) (pe_lst pa_nil)) (pss_cons (ps_set (i := 0) scNetBy.nd rfl (Or.inl rfl) (pe_op op_fdiv (pv 0) pe_int)) (pss_cons (ps_for PassesOwn.never rfl (pi_range1 rfl mr (pa_cons (pv 1) pa_nil)) (pg_name (i := 9) scNetBy.nd rfl (Or.inl rfl)) (pss_cons (ps_par (i := 10) (j := 11) rfl scNetBy.nd rfl rfl (by decide) rfl rfl (pa_cons (pe_op op_mod (pv 0) (pv 3)) (pa_cons (pe_op op_mod (pe_op op_fdiv (pv 0) (pv 3)) (pv 3)) pa_nil)) rfl) (pss_cons (ps_set (i := 0) scNetBy.nd rfl (Or.inl rfl) (pe_op op_fdiv (pe_op op_fdiv (pv 0) (pv 3)) (pv 3))) (pss_cons (ps_set (i := 12) scNetBy.nd rfl (Or.inl rfl) (pe_callTy call_int1 rfl mint boot_int' (pa_cons (pe_cmpR op_ne (pe_ix ix_list (pv 6) (pv 10) (fun _ _ => rfl)) (pe_ix ix_list (pv 6) (pv 11) (fun _ _ => rfl)) (nomark _)) pa_nil))) (pss_one (ps_if (PW.pt (pw_and (pt_cmpR op_le (pe_op op_add (pv 7) (pv 12)) pe_int (nomark _)) (pw_and1 (pt_cmpR op_le (pe_op op_sub (pe_op op_sub (pe_op op_add (pe_callB call_len_seq rfl ml PySem.boot_len (pa_cons (pv 8) pa_nil)) pe_int) (pv 7)) (pv 12)) pe_int (nomark _))))) (pss_cons (ps_set (i := 7) scNetBy.nd rfl (Or.inl rfl) (pe_op op_add (pv 7) (pv 12))) (pss_cons (ps_set (i := 6) scNetBy.nd rfl (Or.inl rfl) (pe_call G2 hr1 rfl mG2 kG2 bG2 .nil pass0 (pa_cons (pv 6) (pa_cons (pv 10) (pa_cons (pv 11) pa_nil))))) (pss_cons (ps_set (i := 13) scNetBy.nd rfl (Or.inl rfl) (pe_callB call_sortedS rfl mso boot_sorted' (pa_cons (pe_lst (pa_cons (pe_ix ix_list (pv 4) (pv 10) (fun _ _ => rfl)) (pa_cons (pe_ix ix_list (pv 4) (pv 11) (fun _ _ => rfl)) pa_nil))) pa_nil))) (pss_one (ps_expr (pe_bm PySem.F.plainAttrs_list PySem.F.slot_list_append PySem.F.type_list_append mt_append (pv 8) (pa_cons (pe_tup (pa_cons (pe_ix ix_list (pv 5) (pv 9) (fun _ _ => rfl)) (pa_cons (pe_ix ix_list (pv 13) pe_int (fun _ _ => rfl)) (pa_cons (pe_ix ix_list (pv 13) pe_int (fun _ _ => rfl)) pa_nil)))) pa_nil))))))) pss_nil)))))) (pss_one (ps_ret (pe_callB call_sortedTO rfl mso boot_sorted' (pa_cons (pv 8) pa_nil)))))))))))), ?_⟩
  try dsimp only [Cx.wish, cxOf]
  obtain ⟨b0, b1⟩ := emod_of b (show (0 : Int) < 16 by decide)
  refine ⟨_, rfl, _, _, rfl, rfl, (by show (0 : Int) < _; decide), _, _, rfl, rfl, ?_⟩
  have k0 : 0 < 1 + b % 16 := by omega
  have k16 : 1 + b % 16 ≤ 16 := by omega
  refine ⟨_, rfl, _, rfl, _, _, rfl, by omega, by omega, fun nh ss H1 e1 nh0 hnh ssl sst => ?_⟩
  refine ⟨_, rfl, _, _, rfl, rfl, ⟨by decide, by decide⟩, _, _, rfl, rfl, _, 12, rfl, by decide, by decide, fun tl ts H2 e2 tl0 htl tsl tst => ?_⟩
  have E2 := e1.trans e2
  refine ⟨_, rfl, _, rfl, by omega, by omega, fun rg hrg => ⟨rg, _, rfl, upd_same, by omega, by omega, fun pc hpc => ?_⟩⟩
  have Y1 := Ext.new hrg (.rng 0 (1 + b % 16))
  have Y2 := Y1.trans (Ext.new hpc (.lst ((List.range (1 + b % 16).toNat).map fun (i : Nat) => V.int (i : Int))))
  refine ⟨Nat.zero_le _, fun nl hnl => ?_⟩
  have Y3 := Y2.trans (Ext.new hnl (.lst []))
  have E3 := E2.trans Y3
  have nl0 := (E2.trans Y2).none hnl
  have pn : pc ≠ nl := fun e => by rw [← e, upd_same] at hnl; cases hnl
  refine ⟨_, rfl, _, _, rfl, rfl, ⟨by decide, by decide⟩, ?_⟩
  refine ⟨_, rfl, m, rfl, by omega, by omega, ?_⟩
  have tsl' : ts.length = 12 := tsl
  refine for_range (lo := 0) (n := m.toNat) (fun i σ H' => ∃ pc nl nh tl hs net, NI H m st (1 + b % 16) i σ H' pc nl nh tl hs net ss ts) ⟨pc, nl, nh, tl, (List.range (1 + b % 16).toNat).map fun (i : Nat) => (i : Int), [], ⟨_, _, _, _, _, _, _, rfl⟩, E3, ?_, ?_, ⟨[], upd_same, .nil⟩, nl0, pn, Nat.le_refl _, fun t h => (by cases h), ne_of_none (Y2 _ _ (e2 _ _ hnh)) hnl, ne_of_none (Y2 _ _ htl) hnl, Y3 _ _ (e2 _ _ hnh), Y3 _ _ htl⟩ ?_ ?_
  · rw [upd_ne pn, upd_same, List.map_map]; rfl
  · rw [List.length_map, List.length_range]; omega
  · rintro i σ H' hi ⟨pc, nl, nh, tl, hs, net, ⟨b', ta, x9, x10, x11, x12, x13, rfl⟩, ext, pcA, hsl, nt, nl0, pn, ln, tx, nhn, tln, nhA, tlA⟩
    obtain ⟨o0, o1⟩ := emod_of b' k0
    obtain ⟨t0', t1'⟩ := emod_of (b' / (1 + b % 16)) k0
    have cd : CDiv (b' / (1 + b % 16)) (1 + b % 16) := ⟨k0, by omega⟩
    have cd' : CDiv b' (1 + b % 16) := ⟨k0, by omega⟩
    refine ⟨_, rfl, _, rfl, _, _, rfl, rfl, k0, _, rfl, _, rfl, _, _, rfl, rfl, cd', _, rfl, _, _, rfl, rfl, k0, _, _, rfl, ?_⟩
    have X3 := Ext.refl H'
    refine ⟨_, rfl, _, rfl, _, _, rfl, rfl, cd', _, rfl, _, _, rfl, rfl, cd, ?_⟩
    obtain ⟨v1, _, a1⟩ := at_intM (hs := hs) o0 (by omega)
    obtain ⟨v2, _, a2⟩ := at_intM (hs := hs) t0' (by omega)
    have pc3 := X3 _ _ pcA
    obtain ⟨as, ea1, ea2⟩ := id nt
    have la : as.length = net.length := ea2.length
    refine ⟨_, rfl, _, rfl, pc, _, _, _, rfl, rfl, SqL.of pc3, a1, _, rfl, _, rfl, pc, _, _, _, rfl, rfl, SqL.of pc3, a2, rfl, .inr ⟨_, rfl, ?_⟩⟩
    refine ⟨_, rfl, _, rfl, _, _, rfl, rfl, _, _, rfl, rfl, _, rfl, ?_⟩
    refine ite2 (fun c => ?_) (fun c => iteF ⟨pc, nl, nh, tl, hs, net, ⟨_, _, _, _, _, _, _, rfl⟩, ext, pcA, hsl, nt, nl0, pn, by omega, tx, nhn, tln, nhA, tlA⟩)
    refine ⟨_, rfl, nl, _, rfl, .inl (SqL.of (X3 _ _ ea1)), _, _, rfl, rfl, _, rfl, _, _, rfl, rfl, _, rfl, _, _, rfl, rfl, _, _, rfl, rfl, _, rfl, ?_⟩
    refine ite2 (fun c2 => ?_) (fun c2 => ⟨pc, nl, nh, tl, hs, net, ⟨_, _, _, _, _, _, _, rfl⟩, ext, pcA, hsl, nt, nl0, pn, by omega, tx, nhn, tln, nhA, tlA⟩)
    refine ⟨_, rfl, _, rfl, _, _, rfl, rfl, ?_⟩
    refine ⟨_, rfl, _, rfl, _, rfl, pc, hs, _, _, rfl, pc3, by omega, o0, by omega, t0', by omega, fun pc2 hs2 H4 e4 pc20 hpc2 hsl2 => ?_⟩
    have E4 := X3.trans e4
    obtain ⟨k1, k1m, k1a⟩ := at_strM (hs := ss) o0 (by rw [ssl]; omega)
    obtain ⟨k2, k2m, k2a⟩ := at_strM (hs := ss) t0' (by rw [ssl]; omega)
    have nh4 := E4 _ _ nhA
    refine ⟨_, rfl, _, rfl, nh, _, _, _, rfl, rfl, SqL.of nh4, k1a, _, rfl, _, rfl, nh, _, _, _, rfl, rfl, SqL.of nh4, k2a, ?_⟩
    refine ⟨(by show 2 ≤ sizeLine; decide), fun L2 hL2 => ⟨L2, [k1, k2], rfl, SqL.of upd_same, (by show 2 < 64; decide), fun S sr hS' perm srt => ?_⟩⟩
    have lss : sr.length = 2 := perm.length_eq
    obtain ⟨x, y, rfl⟩ : ∃ x y, sr = [x, y] := by
      match sr, lss with
      | [x, y], _ => exact ⟨x, y, rfl⟩
    have Z1 := Ext.new hL2 (.lst [V.str k1, V.str k2])
    have Z2 := Z1.trans (Ext.new hS' (.lst ([x, y].map V.str)))
    have E6 := E4.trans Z2
    obtain ⟨tn, tm, tna⟩ := at_strM (hs := ts) (i := 0 + (i : Int)) (by omega) (by rw [tsl']; omega)
    refine ⟨_, rfl, .inl ⟨rfl, _, SqL.of (E6 _ _ ea1)⟩, _, rfl, _, rfl, tl, _, _, _, rfl, rfl, SqL.of (E6 _ _ tlA), tna, _, rfl, S, _, _, _, rfl, rfl, SqL.of upd_same, (by exact atI_nat (j := 0) rfl), _, rfl, S, _, _, _, rfl, rfl, SqL.of upd_same, (by exact atI_nat (j := 1) rfl), (by show 3 ≤ sizeLine; decide), fun T3 hT3 => ?_⟩
    have E7 := E6.trans (Ext.new hT3 (.tup (trV (tn, x, y))))
    refine ⟨nl, _, _, rfl, rfl, E7 _ _ ea1, by rw [List.length_map]; exact small1000 (by omega), ?_⟩
    have mem : ∀ z ∈ [x, y], Named z := fun z hz => by
      have := perm.mem_iff.mp hz
      simp only [List.mem_cons, List.not_mem_nil, or_false] at this
      rcases this with rfl | rfl
      · exact sst _ k1m
      · exact sst _ k2m
    have p2n : pc2 ≠ nl := fun z => by
      have := E4.none (p := pc2)
      rw [z] at hpc2
      have z2 := (e4 _ _ (X3 _ _ ea1)).symm.trans hpc2
      have z3 : pc20 = pc20 := rfl
      rw [z] at pc20
      have z4 := X3 _ _ ea1
      rw [pc20] at z4
      cases z4
    refine ⟨pc2, nl, nh, tl, hs2, net ++ [(tn, x, y)], ⟨_, _, _, _, _, _, _, rfl⟩, (ext.trans E7).over nl0 _, ?_, by rw [hsl2]; exact hsl, NetAt.snoc ea1 ea2 E7 upd_same, nl0, p2n, by rw [List.length_append]; exact Nat.succ_le_succ ln, fun t ht => ?_, nhn, tln, ?_, ?_⟩
    · rw [upd_ne p2n]
      exact (Z2.trans (Ext.new hT3 _)) _ _ hpc2
    · rcases List.mem_append.mp ht with z | z
      · exact tx t z
      · rw [List.mem_singleton] at z
        subst z
        exact ⟨tst _ tm, mem x (by simp), mem y (by simp), srt2 srt⟩
    · unfold LsS; rw [upd_ne nhn]; exact E7 _ _ nhA
    · unfold LsS; rw [upd_ne tln]; exact E7 _ _ tlA
  · rintro σ H' ⟨pc, nl, nh, tl, hs, net, ⟨b', ta, x9, x10, x11, x12, x13, rfl⟩, ext, pcA, hsl, nt, nl0, pn, ln, tx, nhn, tln, nhA, tlA⟩
    obtain ⟨as, ea1, ea2⟩ := id nt
    have la : as.length = net.length := ea2.length
    refine ⟨_, rfl, nl, as, net.map rowT, rfl, SqL.of ea1, paired_map _ (fun a t z => ⟨SqT.of z, by simp [rowT]⟩) ea2, by omega, fun r o hr' g sp => ?_⟩
    have gm : ∀ i ∈ o.toList, i < as.length := fun i hi => gd_mem g hi
    have gl := gd_len g
    refine q r (o.toList.map fun i => net.getD i t0) _ (ext.trans (Ext.new hr' _)) (ext.none hr') ⟨_, upd_same, Paired.mapP (net_picks ea2 gm) fun a' t z => Ext.new hr' _ _ _ z⟩ ?_ (fun t ht => ?_)
    · rw [List.length_map, gl]; omega
    · obtain ⟨i, hi, rfl⟩ := List.mem_map.mp ht
      have il := gm i hi
      have il' : i < net.length := by omega
      rw [List.getD_eq_getElem?_getD, List.getElem?_eq_getElem il']
      exact tx _ (List.getElem_mem il')
end
end My
namespace My
open PySem L2
def spAllEnds : Sp := fun vs H Q _ => ∃ (p : Addr) (net : List Tr), vs = [.ref p] ∧ NetAt H p net ∧ net.length ≤ 12 ∧ ∀ r H', Ext H H' → H r = none → LsS H' r (endsF net) → Q (.ref r) H'
theorem ends_pt (net : List Tr) (x : Str) : x ∈ endsF net ↔ isPt net x := by
  unfold endsF isPt enT
  simp only [List.mem_flatten, List.mem_map]
  constructor
  · rintro ⟨l, ⟨t, ht, rfl⟩, hx⟩
    simp only [List.mem_cons, List.not_mem_nil, or_false] at hx
    exact ⟨t, ht, hx⟩
  · rintro ⟨t, ht, h⟩
    exact ⟨_, ⟨t, ht, rfl⟩, by simpa using h⟩
theorem perm_rise {ss ss' : List Str} (nd : ss.Nodup) (p : ss'.Perm ss) (s : PyProof.Rows.sortedS ss' = true) : Rise ss' := rise_of s (p.nodup_iff.mpr nd)
section
variable {P : Program} {w : World} {K : PySem.W.Frag} {mg : Str → Option Value} {base : Heap} {f f1 f2 : Addr} {fd fd1 fd2 : FuncData}
theorem scDrawn : FnScope ["_law_script", "_law_at", "_law_big_here", "_law_most"] ["_law_script", "_law_at"] (defScope sDrawn) := ⟨rfl, rfl, rfl, by decide +kernel, rfl, by decide +kernel, by decide +kernel⟩
set_option maxHeartbeats 4000000 in
theorem ok_drawn (F : Fun K "_law_drawn" "_law_drawn" sDrawn f fd) (G1 : FnOk P w K mg base CX0 2 f1 fd1 ["_law_script", "_law_at"] (spBig K)) (bG1 : Binds K fd1 ["_law_script", "_law_at"] []) (kG1 : PySem.W.keepIn K (.ref f1) = true) (mG1 : mg "_law_big" = some (.ref f1))
    (G2 : FnOk P w K mg base CX0 2 f2 fd2 ["_law_big_here", "_law_most", "_law_stem"] spNetBy) (bG2 : Binds K fd2 ["_law_big_here", "_law_most", "_law_stem"] []) (kG2 : PySem.W.keepIn K (.ref f2) = true) (mG2 : mg "_law_net_by" = some (.ref f2)) : FnOk P w K mg base CX0 3 f fd ["_law_script", "_law_at"] (spDrawn K) := by
  refine F.ok scDrawn (fun vs H Q E h => ?_) (fun cdv A outer s H vs Q E hr h => ?_)
  · obtain ⟨a, ns, rfl, _⟩ := h
    rfl
  obtain ⟨a, ns, rfl, hS, q⟩ := h
  have hr2 := hr
  refine ⟨_, (pss_cons (ps_set (i := 2) scDrawn.nd rfl (Or.inl rfl) (pe_call G1 hr2 rfl mG1 kG1 bG1 .nil pass0 (pa_cons (pv 0) (pa_cons (pv 1) pa_nil)))) (pss_cons (ps_set (i := 3) scDrawn.nd rfl (Or.inl rfl) (pe_op op_mod (pv 2) pe_int)) (pss_cons (ps_if (pt_cmpR op_eq (pe_op op_mod (pe_op op_fdiv (pv 2) pe_int) pe_int) pe_int (nomark _)) (pss_one (ps_set (i := 3) scDrawn.nd rfl (Or.inl rfl) pe_int)) pss_nil) (pss_one (ps_ret (pe_call G2 hr rfl mG2 kG2 bG2 .nil pass0 (pa_cons (pe_op op_fdiv (pv 2) pe_int) (pa_cons (pv 3) (pa_cons (pe_op op_mod (pe_call G1 hr2 rfl mG1 kG1 bG1 .nil pass0 (pa_cons (pv 0) (pa_cons (pe_op op_add (pv 1) pe_int) pa_nil))) (pe_op op_pow pe_int pe_int)) pa_nil))))))))), ?_⟩
  try dsimp only [Cx.wish, cxOf]
  refine ⟨_, rfl, _, rfl, a, ns, 0, rfl, hS, by decide, by decide, fun v H1 e1 => ?_⟩
  obtain ⟨b0, b1⟩ := emod_of v (show (0 : Int) < 8 by decide)
  refine ⟨_, rfl, _, _, rfl, rfl, (by show (0 : Int) < _; decide), ?_⟩
  refine ⟨_, rfl, _, _, rfl, rfl, ⟨by decide, by decide⟩, _, _, rfl, rfl, (by show (0 : Int) < _; decide), rfl, _, rfl, ite2 (fun c => ?_) (fun c => ?_)⟩
  · refine ⟨_, rfl, _, _, rfl, rfl, ⟨by decide, by decide⟩, _, rfl, _, rfl, _, rfl, _, _, rfl, rfl, a, ns, _, rfl, e1.sqL hS, by decide, by decide, fun v2 H2 e2 => ?_⟩
    refine ⟨_, _, rfl, rfl, ⟨by decide, by decide, by decide⟩, _, _, rfl, rfl, (by show (0 : Int) < _; decide), ?_⟩
    exact ⟨_, _, _, rfl, by decide, by decide, fun r net H3 e3 r0 nt l tx => q r net H3 (e1.trans (e2.trans e3)) ((e1.trans e2).none r0) nt l tx⟩
  · refine ⟨_, rfl, _, _, rfl, rfl, ⟨by decide, by decide⟩, _, rfl, _, rfl, _, rfl, _, _, rfl, rfl, a, ns, _, rfl, e1.sqL hS, by decide, by decide, fun v2 H2 e2 => ?_⟩
    refine ⟨_, _, rfl, rfl, ⟨by decide, by decide, by decide⟩, _, _, rfl, rfl, (by show (0 : Int) < _; decide), ?_⟩
    exact ⟨_, _, _, rfl, b0, by omega, fun r net H3 e3 r0 nt l tx => q r net H3 (e1.trans (e2.trans e3)) ((e1.trans e2).none r0) nt l tx⟩
theorem scAllEnds : FnScope ["_law_net", "_law_found", "_law_tie", "_law_one", "_law_other"] ["_law_net"] (defScope sAllEnds) := ⟨rfl, rfl, rfl, by decide +kernel, rfl, by decide +kernel, by decide +kernel⟩
set_option maxHeartbeats 4000000 in
theorem ok_allends (F : Fun K "_law_all_ends" "_law_all_ends" sAllEnds f fd) : FnOk P w K mg base CX0 1 f fd ["_law_net"] spAllEnds := by
  refine F.ok scAllEnds (fun vs H Q E h => ?_) (fun cdv A outer s H vs Q E hr h => ?_)
  · obtain ⟨p, net, rfl, _⟩ := h
    rfl
  obtain ⟨p, net, rfl, ⟨as, hp, pr⟩, hl, q⟩ := h
  refine ⟨_, (pss_cons (ps_set (i := 1) scAllEnds.nd rfl (Or.inl rfl) (pe_lst pa_nil)) (pss_cons (ps_for PassesOwn.never rfl (pi_list (pv 0)) (pg_tup rfl (pgs_cons (pg_name (i := 2) scAllEnds.nd rfl (Or.inl rfl)) (pgs_cons (pg_name (i := 3) scAllEnds.nd rfl (Or.inl rfl)) (pgs_cons (pg_name (i := 4) scAllEnds.nd rfl (Or.inl rfl)) pgs_nil)))) (pss_one (ps_set (i := 1) scAllEnds.nd rfl (Or.inl rfl) (pe_op op_cat (pv 1) (pe_lst (pa_cons (pv 3) (pa_cons (pv 4) pa_nil))))))) (pss_one (ps_ret (pv 1))))), ?_⟩
  try dsimp only [Cx.wish, cxOf]
  have la : as.length = net.length := pr.length
  refine ⟨Nat.zero_le _, fun L hL => ?_⟩
  have X0 := Ext.new hL (.lst [])
  refine ⟨_, rfl, p, rfl, ⟨_, SqL.of (X0 _ _ hp)⟩, ?_⟩
  refine for_list (xs := as.map V.ref) (fun i σ H3 => ∃ (fo : Addr) (x2 x3 x4 : Option V), σ = [some (.ref p), some (.ref fo), x2, x3, x4] ∧ Ext H H3 ∧ H fo = none ∧ LsS H3 fo (endsF (net.take i))) ⟨L, _, _, _, rfl, X0, hL, upd_same⟩ ?_ ?_ ?_
  · rintro i σ H3 _ ⟨_, _, _, _, _, e3, _⟩
    exact SqL.of (e3 _ _ hp)
  · rintro i x σ H3 hx ⟨fo, x2, x3, x4, rfl, e3, fo0, hf⟩
    obtain ⟨a, t, rfl, ht, ha⟩ := net_get pr hx
    have hi := at_lt ht
    have le := endsF_len (net.take i)
    rw [List.length_take] at le
    refine ⟨a, _, rfl, SqT.of (e3 _ _ ha), rfl, _, _, rfl, _, _, rfl, _, _, rfl, rfl, ?_⟩
    refine ⟨_, rfl, _, rfl, _, rfl, (by show 2 ≤ sizeLine; decide), fun L2 hL2 => ?_⟩
    have X1 := Ext.new hL2 (.lst [V.str t.2.1, V.str t.2.2])
    refine ⟨fo, L2, _, _, rfl, rfl, X1 _ _ hf, upd_same, ?_, fun r hr' => ?_⟩
    · rw [List.length_map]
      exact Nat.le_of_lt (small1000 (by show (endsF (net.take i)).length + 2 ≤ 1000; omega))
    refine ⟨r, _, _, _, rfl, e3.trans (X1.trans (Ext.new hr' _)), (e3.trans X1).none hr', ?_⟩
    unfold LsS
    rw [upd_same, take_snoc ht, endsF_snoc, List.map_append]; rfl
  · rintro σ H3 ⟨fo, _, _, _, rfl, e3, fo0, hf⟩
    rw [List.length_map, la, List.take_of_length_le (Nat.le_refl _)] at hf
    exact ⟨_, rfl, q fo H3 e3 fo0 hf⟩
theorem scLPts : FnScope ["_law_net"] ["_law_net"] (defScope sLPts) := ⟨rfl, rfl, rfl, by decide +kernel, rfl, by decide +kernel, by decide +kernel⟩
set_option maxHeartbeats 4000000 in
theorem ok_lpts (F : Fun K "_law_points" "_law_points" sLPts f fd) (G1 : FnOk P w K mg base CX0 1 f1 fd1 ["_law_net"] spAllEnds) (bG1 : Binds K fd1 ["_law_net"] []) (kG1 : PySem.W.keepIn K (.ref f1) = true) (mG1 : mg "_law_all_ends" = some (.ref f1)) (mso : mg "sorted" = none) (mst : mg "set" = none) : FnOk P w K mg base CX0 2 f fd ["_law_net"] spPoints := by
  refine F.ok scLPts (fun vs H Q E h => ?_) (fun cdv A outer s H vs Q E hr1 h => ?_)
  · obtain ⟨p, net, rfl, _⟩ := h
    rfl
  obtain ⟨p, net, rfl, nt, hl, q⟩ := h
  refine ⟨_, (pss_one (ps_ret (pe_callB (call_sortedSet rfl) rfl mso boot_sorted' (pa_cons (pe_callTy (call_setS rfl) rfl mst boot_set' (pa_cons (pe_call G1 hr1 rfl mG1 kG1 bG1 .nil pass0 (pa_cons (pv 0) pa_nil)) pa_nil)) pa_nil)))), ?_⟩
  try dsimp only [Cx.wish, cxOf]
  have le := endsF_len net
  refine ⟨_, rfl, p, net, rfl, nt, hl, fun r H1 e1 r0 hr => ?_⟩
  refine ⟨r, endsF net, rfl, SqL.of hr, by omega, fun S ss hS nd lss mem => ?_⟩
  refine ⟨S, ss, rfl, upd_same, by omega, fun R ss' hR perm srt => ?_⟩
  have E := e1.trans ((Ext.new hS (SetS P w S ss)).trans (Ext.new hR (.lst (ss'.map V.str))))
  refine q R ss' _ E ((e1.trans (Ext.new hS _)).none hR) upd_same ⟨perm.nodup_iff.mpr nd, fun x => ?_⟩ (perm_rise nd perm srt) (by rw [perm.length_eq]; omega)
  rw [perm.mem_iff, mem, ends_pt]
end
end My
namespace My
open PySem L2
def trD (t : Tr) : PyData := .tuple [.str t.1, .str t.2.1, .str t.2.2]
def netD (net : List Tr) : PyData := .list (net.map trD)
theorem eqv_tr (t : Tr) : PyData.eqv (trD t) (trD t) = true := by
  show (t.1 == t.1 && (t.2.1 == t.2.1 && (t.2.2 == t.2.2 && true))) = true
  simp
theorem eqv_net : ∀ net : List Tr, PyData.eqv (netD net) (netD net) = true
  | [] => rfl
  | t :: r => by
    have ih : PyData.eqvAll (r.map trD) (r.map trD) = true := eqv_net r
    show (PyData.eqv (trD t) (trD t) && PyData.eqvAll (r.map trD) (r.map trD)) = true
    rw [eqv_tr, ih]; rfl
theorem lay_net : ∀ {net : List Tr}, TxN net → PyData.canLayAll0 (net.map trD) = true ∧ PyData.depthAll (net.map trD) ≤ 1
  | [], _ => ⟨rfl, by decide⟩
  | t :: r, h => by
    obtain ⟨h1, h2⟩ := lay_net (net := r) fun y hy => h y (List.mem_cons_of_mem _ hy)
    obtain ⟨t1, t2, t3⟩ := h t List.mem_cons_self
    refine ⟨?_, ?_⟩
    · show ((PyData.strOk t.1 && (PyData.strOk t.2.1 && (PyData.strOk t.2.2 && true))) && PyData.canLayAll0 (r.map trD)) = true
      rw [h1, t1.1.sm.ok, t2.1.sm.ok, t3.1.1.sm.ok]; rfl
    · show max (max 0 (max 0 (max 0 0)) + 1) (PyData.depthAll (r.map trD)) ≤ 1
      omega
theorem shaped_net {net : List Tr} (h : TxN net) : SeqAt.shaped (netD net) = true := by
  obtain ⟨h3, h4⟩ := lay_net h
  show (PyData.canLayAll0 (net.map trD) && decide (PyData.depthAll (net.map trD) + 1 ≤ 64)) = true
  rw [h3, decide_eq_true (by omega)]; rfl
theorem drs_net {K : PySem.W.Frag} {H : Hp} : ∀ {as : List Addr} {net : List Tr}, Paired (fun a t => H a = some (.tup (trV t))) as net → DRs K H (as.map V.ref) (net.map trD)
  | _, _, .nil => .nil
  | _, _, .cons h t => .cons (.tup (SqT.of h) (.cons (.str _) (.cons (.str _) (.cons (.str _) .nil)))) (drs_net t)
theorem dr_net {K : PySem.W.Frag} {H : Hp} {p : Addr} {net : List Tr} (h : NetAt H p net) : DR K H (.ref p) (netD net) := by
  obtain ⟨as, h1, h2⟩ := h
  exact .lst (SqL.of h1) (drs_net h2)
theorem eqv_net_nil (net : List Tr) : PyData.eqv (netD net) (.list []) = decide (net = []) := by
  cases net with
  | nil => rfl
  | cons t r => rfl
theorem shaped_nil : SeqAt.shaped (.list []) = true := by decide +kernel
theorem dr_nil {K : PySem.W.Frag} {H : Hp} {p : Addr} (h : H p = some (.lst [])) : DR K H (.ref p) (.list []) := .lst (SqL.of h) .nil
def spCome : Sp := fun vs H Q _ => ∃ (p sh : Addr) (net : List Tr) (tie : Str) (shut : List Str), vs = [.ref p, .str tie, .ref sh] ∧ NetAt H p net ∧ net.length ≤ 12 ∧ TxN net ∧ tie ∈ net.map (·.1) ∧ LsS H sh shut ∧ ∀ r ss H', Ext H H' → H r = none → LsS H' r ss → (∀ x ∈ ss, x ∈ net.map (·.1)) → ss.length ≤ 12 → Q (.ref r) H'
def CTW (H : Hp) (p sh fo : Addr) (net : List Tr) (tie : Str) (m : Nat) (σ : St) (H' : Hp) : Prop := ∃ (fs : List Str) (k : Nat) (x5 x6 x7 x8 x9 : Option V), m = 12 - k ∧ σ = [some (.ref p), some (.str tie), some (.ref sh), some (.ref fo), some (.int (k : Int)), x5, x6, x7, x8, x9] ∧ Ext H H' ∧ LsS H' fo fs ∧ fs.Nodup ∧ (∀ x ∈ fs, x ∈ net.map (·.1)) ∧ k ≤ fs.length
def TwoS (H : Hp) (b : Addr) : Prop := ∃ u v : Str, H b = some (.tup [.str u, .str v])
section
variable {P : Program} {w : World} {K : PySem.W.Frag} {mg : Str → Option Value} {base : Heap} {f f1 f2 f3 : Addr} {fd fd1 fd2 fd3 : FuncData}
abbrev ctN : List Str := ["_law_net", "_law_tie", "_law_shut", "_law_found", "_law_at", "_law_ends", "_law_other", "_law_one", "_law_two", "_law_shared"]
theorem scCome : FnScope ctN ["_law_net", "_law_tie", "_law_shut"] (defScope sCome) := ⟨rfl, rfl, rfl, by decide +kernel, rfl, by decide +kernel, by decide +kernel⟩
set_option maxHeartbeats 8000000 in
theorem ok_come (F : Fun K "_law_come_to" "_law_come_to" sCome f fd) (ml : mg "len" = none) (mso : mg "sorted" = none) : FnOk P w K mg base CX0 1 f fd ["_law_net", "_law_tie", "_law_shut"] spCome := by
  refine F.ok scCome (fun vs H Q E h => ?_) (fun cdv A outer s H vs Q E hr h => ?_)
  · obtain ⟨p, sh, net, tie, shut, rfl, _⟩ := h
    rfl
  obtain ⟨p, sh, net, tie, shut, rfl, nt, hl, tx, tm, hsh, q⟩ := h
  refine ⟨_, (pss_cons (ps_set (i := 3) scCome.nd rfl (Or.inr rfl) (pe_lst (pa_cons (pv 1) pa_nil))) (pss_cons (ps_set (i := 4) scCome.nd rfl (Or.inr rfl) pe_int) (pss_cons (ps_while PassesOwn.never (pt_cmpR op_lt (pv 4) (pe_callB call_len_seq rfl ml PySem.boot_len (pa_cons (pv 3) pa_nil)) (nomark _)) (pss_cons (ps_set (i := 5) scCome.nd rfl (Or.inr rfl) (pe_ix ix_list (pe_lc (N := ctN) (sc := defScope sCome) (N' := ["_law_row", "_law_found", "_law_at"]) (sub := [none, some 3, some 4]) rfl rfl (CmpOk.of (by decide +kernel)) rfl (pi_list (pv 0)) (fun C s H fp => ⟨pg_name (i := 0) (by show (["_law_row", "_law_found", "_law_at"] : List Str).Nodup; decide) rfl (Or.inl rfl), pts_one (pt_cmpR op_eq (pe_ix (show IxR _ (rIxT K) from ix_tup) (pv 0) pe_int (fun _ _ => rfl)) (pe_ix (show IxR _ (rIxL K) from ix_list) (pv 1) (pv 2) (fun _ _ => rfl)) (nomark _)), (pe_slice (show SlR _ (rSlT K) from sl_tup) (pv 0) (po_some pe_int) po_none)⟩)) pe_int (fun _ _ => rfl))) (pss_cons (ps_for PassesOwn.never rfl (pi_list (pv 0)) (pg_tup rfl (pgs_cons (pg_name (i := 6) scCome.nd rfl (Or.inl rfl)) (pgs_cons (pg_name (i := 7) scCome.nd rfl (Or.inl rfl)) (pgs_cons (pg_name (i := 8) scCome.nd rfl (Or.inl rfl)) pgs_nil)))) (pss_cons (ps_lc (i := 9) (N := ctN) (sc := defScope sCome) (N' := ["_law_end", "_law_ends", "_law_shut"]) (sub := [none, some 5, some 2]) rfl rfl (CmpOk.of (by decide +kernel)) rfl (pi_tup (pe_tup (pa_cons (pv 7) (pa_cons (pv 8) pa_nil)))) (fun C s H fp => ⟨pg_name (i := 0) (by show (["_law_end", "_law_ends", "_law_shut"] : List Str).Nodup; decide) rfl (Or.inl rfl), pts_one (PW.pt (pw_and (pt_cmpR (show OpR _ (compareOp .In) (rIn K false) from op_in_seq) (pv 0) (pv 1) (by with_unfolding_all rfl)) (pw_and1 (pt_cmpR (show OpR _ (compareOp .NotIn) (rIn K true) from op_notIn_seq) (pv 0) (pv 2) (by with_unfolding_all rfl))))), pv 0⟩) scCome.nd rfl (Or.inl rfl)) (pss_one (ps_if (PW.pt (pw_and (pt_cmpR (show OpR _ (compareOp .NotIn) (rIn K true) from op_notIn_seq) (pv 6) (pv 3) (by with_unfolding_all rfl)) (pw_and1 (pt_cmpR (op_neD (room64 hr)) (pv 9) (pe_lst pa_nil) (nomark _))))) (pss_one (ps_expr (pe_bm PySem.F.plainAttrs_list PySem.F.slot_list_append PySem.F.type_list_append mt_append (pv 3) (pa_cons (pv 6) pa_nil)))) pss_nil)))) (pss_one (ps_set (i := 4) scCome.nd rfl (Or.inr rfl) (pe_op op_add (pv 4) pe_int)))))) (pss_one (ps_ret (pe_callB call_sortedS rfl mso boot_sorted' (pa_cons (pv 3) pa_nil))))))), ?_⟩
  try dsimp only [Cx.wish, cxOf]
  obtain ⟨as, hp, pr⟩ := id nt
  have la : as.length = net.length := pr.length
  refine ⟨_, rfl, (by show 1 ≤ sizeLine; decide), fun fo hfo => ?_⟩
  have X0 := Ext.new hfo (.lst [V.str tie])
  refine ⟨CTW H p sh fo net tie, ⟨_, [tie], 0, none, none, none, none, none, rfl, rfl, X0, upd_same, by simp, fun x hx => ?_, Nat.zero_le _⟩, ?_⟩
  · rw [List.mem_singleton] at hx; rw [hx]; exact tm
  rintro m σ H' ⟨fs, k, x5, x6, x7, x8, x9, rfl, rfl, e1, hf, nd, sub, kl⟩
  have lf : fs.length ≤ net.length := by
    have := List.Nodup.length_le_of_subset nd sub
    rwa [List.length_map] at this
  refine ⟨_, rfl, _, rfl, fo, _, rfl, .inl (SqL.of hf), _, _, rfl, rfl, _, rfl, ?_⟩
  refine ite2 (fun ck => ?_) (fun ck => ?_)
  · have ck' : k < fs.length := by
      have := of_decide_eq_true ck
      rw [List.length_map] at this
      omega
    refine ⟨fun σ' H' => ∃ m', m' < 12 - k ∧ CTW H p sh fo net tie m' σ' H', fun _ _ h => h, ?_⟩
    have hya : atI (fs.map V.str) ((k : Nat) : Int) = some (.str fs[k]) := atI_nat (by rw [List.getElem?_map, List.getElem?_eq_getElem ck']; rfl)
    have hin := sub fs[k] (List.getElem_mem ck')
    refine ⟨_, rfl, p, rfl, ⟨_, SqL.of (e1 _ _ hp)⟩, ?_⟩
    refine turns_list (xs := as.map V.ref) (fun j ys H2 => Ext H' H2 ∧ ∃ bs : List Addr, ys = bs.map V.ref ∧ (∀ b ∈ bs, TwoS H2 b) ∧ bs.length ≤ j ∧ ((∃ t ∈ net.take j, t.1 = fs[k]) → bs ≠ [])) ⟨Ext.refl _, [], rfl, fun b hb => (by cases hb), Nat.le_refl _, fun ⟨t, ht, _⟩ => (by cases ht)⟩ (fun j ys H2 _ h => SqL.of (h.1 _ _ (e1 _ _ hp))) ?_ ?_
    · rintro j x ys H2 hx ⟨e2, bs, rfl, two, lb, non⟩
      obtain ⟨a, t, rfl, ht, ha⟩ := net_get pr hx
      have hj := at_lt ht
      refine ⟨Sle.set _ (Sle.refl _) (fun u z => by cases z), _, rfl, a, _, _, _, rfl, rfl, SqT.of (e2 _ _ (e1 _ _ ha)), (by exact atI_nat (j := 0) rfl), _, rfl, _, rfl, fo, _, _, _, rfl, rfl, SqL.of (e2 _ _ hf), hya, rfl, _, rfl, ?_⟩
      refine ite2 (fun c => ?_) (fun c => ?_)
      · refine ⟨_, rfl, _, rfl, a, _, rfl, SqT.of (e2 _ _ (e1 _ _ ha)), (by show ¬ (1 = 0 ∧ _); omega), fun b hb => ⟨by rw [List.length_map]; exact small1000 (by omega), nxt (at_lt hx) ⟨e2.trans (Ext.new hb _), bs ++ [b], by rw [List.map_append]; rfl, fun b' hb' => ?_, by rw [List.length_append]; exact Nat.add_le_add_right lb 1, fun _ => by simp⟩⟩⟩
        rcases List.mem_append.mp hb' with z | z
        · obtain ⟨u, v, h⟩ := two b' z
          exact ⟨u, v, (Ext.new hb _) _ _ h⟩
        · rw [List.mem_singleton] at z
          subst z
          exact ⟨t.2.1, t.2.2, upd_same⟩
      · refine nxt (at_lt hx) ⟨e2, bs, rfl, two, by omega, fun ⟨t', ht', e'⟩ => non ?_⟩
        rw [take_snoc ht] at ht'
        rcases List.mem_append.mp ht' with z | z
        · exact ⟨t', z, e'⟩
        · rw [List.mem_singleton] at z
          subst z
          exact absurd (decide_eq_true (congrArg V.str e')) c
    · rintro ys H2 ⟨e2, bs, rfl, two, lb, non⟩ L hL
      rw [List.length_map, la, List.take_of_length_le (Nat.le_refl _)] at non
      obtain ⟨t', ht', et'⟩ := List.mem_map.mp hin
      obtain ⟨en, bs', rfl⟩ : ∃ en bs', bs = en :: bs' := by
        cases bs with
        | nil => exact absurd rfl (non ⟨t', ht', et'⟩)
        | cons b r => exact ⟨b, r, rfl⟩
      obtain ⟨u, v, hen⟩ := two en List.mem_cons_self
      have XL := Ext.new hL (.lst ((en :: bs').map V.ref))
      refine ⟨L, _, _, _, rfl, rfl, SqL.of upd_same, (by exact atI_nat (j := 0) rfl), ?_⟩
      have e3 := e1.trans (e2.trans XL)
      have hen3 := XL _ _ hen
      have hf3 := (e2.trans XL) _ _ hf
      refine ⟨_, rfl, p, rfl, ⟨_, SqL.of (e3 _ _ hp)⟩, ?_⟩
      refine for_list (xs := as.map V.ref) (fun i σ H4 => ∃ (gs : List Str) (x6 x7 x8 x9 : Option V), σ = [some (.ref p), some (.str tie), some (.ref sh), some (.ref fo), some (.int (k : Int)), some (.ref en), x6, x7, x8, x9] ∧ Ext H H4 ∧ H4 en = some (.tup [.str u, .str v]) ∧ LsS H4 fo gs ∧ gs.Nodup ∧ (∀ x ∈ gs, x ∈ net.map (·.1)) ∧ fs.length ≤ gs.length) ⟨fs, _, _, _, _, rfl, e3, hen3, hf3, nd, sub, Nat.le_refl _⟩ ?_ ?_ ?_
      · rintro i σ H4 _ ⟨_, _, _, _, _, _, e4, _⟩
        exact SqL.of (e4 _ _ hp)
      · rintro i x σ H4 hx ⟨gs, x6, x7, x8, x9, rfl, e4, hen4, hf4, nd4, sub4, lg⟩
        obtain ⟨a, t, rfl, ht, ha⟩ := net_get pr hx
        have tm4 : t ∈ net := List.mem_of_getElem? ht
        have txt := tx t tm4
        have lg12 : gs.length ≤ net.length := by
          have := List.Nodup.length_le_of_subset nd4 sub4
          rwa [List.length_map] at this
        refine ⟨a, _, rfl, SqT.of (e4 _ _ ha), rfl, _, _, rfl, _, _, rfl, _, _, rfl, rfl, ?_⟩
        refine ⟨_, rfl, _, rfl, (by show 2 ≤ sizeLine; decide), fun T hT => ⟨T, rfl, ⟨_, SqT.of upd_same⟩, ?_⟩⟩
        have XT := Ext.new hT (.tup [V.str t.2.1, V.str t.2.2])
        have e5 := e4.trans XT
        have hen5 := XT _ _ hen4
        have hf5 := XT _ _ hf4
        refine turns_tupl (xs := [V.str t.2.1, V.str t.2.2]) (fun j ys H5 => H5 = upd H4 T (.tup [V.str t.2.1, V.str t.2.2]) ∧ ∃ zs : List Str, ys = zs.map V.str ∧ zs.length ≤ j ∧ ∀ z ∈ zs, Named z) ⟨rfl, [], rfl, Nat.le_refl _, fun z hz => (by cases hz)⟩ (fun j ys H5 _ h => by rw [h.1]; exact SqT.of upd_same) ?_ ?_
        · rintro j y ys H5 hy ⟨rfl, zs, rfl, lz, nz⟩
          have hj : j < 2 := at_lt hy
          obtain ⟨z, rfl, hz⟩ : ∃ z : Str, y = .str z ∧ Named z := by
            rcases (show j = 0 ∨ j = 1 by omega) with rfl | rfl
            · cases Option.some.inj hy; exact ⟨_, rfl, txt.2.1⟩
            · cases Option.some.inj hy; exact ⟨_, rfl, txt.2.2.1⟩
          have stay : Nxt 2 j (fun j ys H5 => H5 = upd H4 T (.tup [V.str t.2.1, V.str t.2.2]) ∧ ∃ zs : List Str, ys = zs.map V.str ∧ zs.length ≤ j ∧ ∀ z ∈ zs, Named z) (zs.map V.str) (upd H4 T (.tup [V.str t.2.1, V.str t.2.2])) := nxt hj ⟨rfl, zs, rfl, by omega, nz⟩
          refine ⟨Sle.set _ (Sle.refl _) (fun u z => by cases z), _, rfl, _, rfl, en, _, rfl, .inr (SqT.of hen5), rfl, flat_strs [u, v], _, rfl, ?_⟩
          refine ite2 (fun c => ?_) (fun c => iteF stay)
          refine ⟨_, rfl, _, rfl, sh, _, rfl, .inl (SqL.of (e5 _ _ hsh)), rfl, flat_strs shut, _, rfl, ?_⟩
          refine ite2 (fun d => ?_) (fun d => stay)
          refine ⟨_, rfl, by rw [List.length_map]; exact small1000 (by omega), nxt hj ⟨rfl, zs ++ [z], by rw [List.map_append]; rfl, by rw [List.length_append]; exact Nat.add_le_add_right lz 1, fun y hy' => ?_⟩⟩
          rcases List.mem_append.mp hy' with w | w
          · exact nz y w
          · rw [List.mem_singleton] at w
            rw [w]; exact hz
        · rintro ys H5 ⟨rfl, zs, rfl, lz, nz⟩ S hS
          have XS := Ext.new hS (.lst (zs.map V.str))
          have e6 := e5.trans XS
          have hen6 := XS _ _ hen5
          have hf6 := XS _ _ hf5
          refine ⟨_, rfl, _, rfl, fo, _, rfl, .inl (SqL.of hf6), rfl, flat_strs gs, _, rfl, ?_⟩
          rw [show (if true = true then !inV (V.str t.1) (gs.map V.str) else inV (V.str t.1) (gs.map V.str)) = !decide (t.1 ∈ gs) from congrArg not (inV_str t.1 gs)]
          refine ite2 (fun c => ?_) (fun c => iteF ⟨gs, _, _, _, _, rfl, e6, hen6, hf6, nd4, sub4, lg⟩)
          have c' : ¬ t.1 ∈ gs := fun z => by simp [z] at c
          refine ⟨_, rfl, Nat.zero_le _, fun l0 hl0 => ?_⟩
          have X7 := Ext.new hl0 (.lst [])
          have hz7 : LsS (upd (upd (upd H4 T (.tup [V.str t.2.1, V.str t.2.2])) S (.lst (zs.map V.str))) l0 (.lst [])) S zs := X7 _ _ upd_same
          refine ⟨_, _, dr_row hz7, dr_nil upd_same, shaped_row (fun z hz => (nz z hz).1.sm.ok), shaped_nil, _, rfl, ?_⟩
          have e7 := e6.trans X7
          have hen7 := X7 _ _ hen6
          have hf7 := X7 _ _ hf6
          refine ite2 (fun d => ?_) (fun d => ⟨gs, _, _, _, _, rfl, e7, hen7, hf7, nd4, sub4, lg⟩)
          refine ⟨_, rfl, .inl ⟨rfl, _, SqL.of hf7⟩, _, rfl, fo, _, _, rfl, rfl, hf7, by rw [List.length_map]; exact small1000 (by omega), ?_⟩
          have nef : en ≠ fo := fun z => by rw [z, hf7] at hen7; cases hen7
          refine ⟨gs ++ [t.1], _, _, _, _, rfl, e7.over hfo _, by rw [upd_ne nef]; exact hen7, by unfold LsS; rw [upd_same, List.map_append]; rfl, ?_, fun x hx' => ?_, by rw [List.length_append]; omega⟩
          · rw [List.nodup_append]
            exact ⟨nd4, by simp, fun x hx' y hy' => by rw [List.mem_singleton] at hy'; rw [hy']; exact fun z => c' (z ▸ hx')⟩
          · rcases List.mem_append.mp hx' with w | w
            · exact sub4 x w
            · rw [List.mem_singleton] at w
              rw [w]; exact List.mem_map_of_mem tm4
      · rintro σ H4 ⟨gs, x6, x7, x8, x9, rfl, e4, hen4, hf4, nd4, sub4, lg⟩
        exact ⟨_, rfl, _, _, rfl, rfl, 12 - (k + 1), by omega, gs, k + 1, _, _, _, _, _, rfl, rfl, e4, hf4, nd4, sub4, by omega⟩
  · refine ⟨_, rfl, fo, fs, rfl, SqL.of hf, by omega, fun R ss' hR perm srt => ?_⟩
    exact q R ss' _ (e1.trans (Ext.new hR _)) (e1.none hR) upd_same (fun x hx => sub x (perm.mem_iff.mp hx)) (by rw [perm.length_eq]; omega)
end
end My
namespace My
open PySem L2
theorem cut_strs (ss : List Str) (lo hi : Option Int) : ∃ ss' : List Str, cutV (ss.map V.str) lo hi = ss'.map V.str := ⟨_, by unfold cutV; rw [← List.map_drop, ← List.map_take]⟩
abbrev nmF : Tr → Str := fun t => t.1
def spTiesBy : Sp := fun vs H Q _ => ∃ (p : Addr) (net : List Tr) (b : Int), vs = [.ref p, .int b] ∧ NetAt H p net ∧ net.length ≤ 12 ∧ TxN net ∧ net ≠ [] ∧ ∀ r ss H', Ext H H' → H r = none → LsS H' r ss → Rise ss → (∀ x ∈ ss, x ∈ net.map nmF) → Q (.ref r) H'
section
variable {P : Program} {w : World} {K : PySem.W.Frag} {mg : Str → Option Value} {base : Heap} {f f1 f2 f3 : Addr} {fd fd1 fd2 fd3 : FuncData}
abbrev tbN : List Str := ["_law_net", "_law_big_here", "_law_names_here", "_law_spots", "_law_shut", "_law_some", "_law_k"]
theorem scTiesBy : FnScope tbN ["_law_net", "_law_big_here"] (defScope sTiesBy) := ⟨rfl, rfl, rfl, by decide +kernel, rfl, by decide +kernel, by decide +kernel⟩
set_option maxHeartbeats 8000000 in
theorem ok_tiesby (F : Fun K "_law_ties_by" "_law_ties_by" sTiesBy f fd) (G1 : FnOk P w K mg base CX0 2 f1 fd1 ["_law_net"] spPoints) (bG1 : Binds K fd1 ["_law_net"] []) (kG1 : PySem.W.keepIn K (.ref f1) = true) (mG1 : mg "_law_points" = some (.ref f1))
    (G2 : FnOk P w K mg base CX0 1 f2 fd2 ["_law_net", "_law_tie", "_law_shut"] spCome) (bG2 : Binds K fd2 ["_law_net", "_law_tie", "_law_shut"] []) (kG2 : PySem.W.keepIn K (.ref f2) = true) (mG2 : mg "_law_come_to" = some (.ref f2))
    (ml : mg "len" = none) (mr : mg "range" = none) (me : mg "enumerate" = none) (mso : mg "sorted" = none) (mst : mg "set" = none) : FnOk P w K mg base CX0 3 f fd ["_law_net", "_law_big_here"] spTiesBy := by
  refine F.ok scTiesBy (fun vs H Q E h => ?_) (fun cdv A outer s H vs Q E hr2 h => ?_)
  · obtain ⟨p, net, b, rfl, _⟩ := h
    rfl
  obtain ⟨p, net, b, rfl, nt, hl, tx, nz, q⟩ := h
  have hr1 := hr2.mono (j := 1) (by decide)
  refine ⟨_, (pss_cons (ps_lc (i := 2) (N := tbN) (sc := defScope sTiesBy) (N' := ["_law_row"]) (sub := [none]) rfl rfl (CmpOk.of (by decide +kernel)) rfl (pi_list (pv 0)) (fun C s H fp => ⟨pg_name (i := 0) (by show (["_law_row"] : List Str).Nodup; decide) rfl (Or.inl rfl), pts_nil, (pe_ix (show IxR _ (rIxT K) from ix_tup) (pv 0) pe_int (fun _ _ => rfl))⟩) scTiesBy.nd rfl (Or.inl rfl)) (pss_cons (ps_set (i := 3) scTiesBy.nd rfl (Or.inl rfl) (pe_call G1 hr2 rfl mG1 kG1 bG1 .nil pass0 (pa_cons (pv 0) pa_nil))) (pss_cons (ps_set (i := 4) scTiesBy.nd rfl (Or.inl rfl) (pe_lst (pa_cons (pe_ix ix_list (pv 3) (pe_op op_mod (pv 1) (pe_callB call_len_seq rfl ml PySem.boot_len (pa_cons (pv 3) pa_nil))) (fun _ _ => rfl)) (pa_cons (pe_ix ix_list (pv 3) (pe_op op_mod (pe_op op_fdiv (pv 1) pe_int) (pe_callB call_len_seq rfl ml PySem.boot_len (pa_cons (pv 3) pa_nil))) (fun _ _ => rfl)) pa_nil)))) (pss_cons (ps_set (i := 1) scTiesBy.nd rfl (Or.inr rfl) (pe_op op_fdiv (pv 1) pe_int)) (pss_cons (ps_set (i := 5) scTiesBy.nd rfl (Or.inl rfl) (pe_lst pa_nil)) (pss_cons (ps_for PassesOwn.never rfl (pi_range1 rfl mr (pa_cons (pe_op op_add pe_int (pe_op op_mod (pv 1) pe_int)) pa_nil)) (pg_name (i := 6) scTiesBy.nd rfl (Or.inl rfl)) (pss_cons (ps_set (i := 5) scTiesBy.nd rfl (Or.inl rfl) (pe_op op_cat (pv 5) (pe_call G2 hr1 rfl mG2 kG2 bG2 .nil pass0 (pa_cons (pv 0) (pa_cons (pe_ix ix_list (pv 2) (pe_op op_mod (pe_op op_fdiv (pv 1) pe_int) (pe_callB call_len_seq rfl ml PySem.boot_len (pa_cons (pv 2) pa_nil))) (fun _ _ => rfl)) (pa_cons (pe_slice sl_list (pv 4) po_none (po_some (pe_op op_add pe_int (pe_op op_mod (pe_op op_fdiv (pv 1) pe_int) pe_int)))) pa_nil)))))) (pss_one (ps_set (i := 1) scTiesBy.nd rfl (Or.inr rfl) (pe_op op_fdiv (pv 1) pe_int))))) (pss_cons (ps_if (pt_cmpR op_eq (pe_op op_mod (pv 1) pe_int) pe_int (nomark _)) (pss_one (ps_lc (i := 5) (N := tbN) (sc := defScope sTiesBy) (N' := ["_law_k", "_law_name", "_law_big_here"]) (sub := [none, none, some 1]) rfl rfl (CmpOk.of (by decide +kernel)) rfl (pi_enum rfl me (pa_cons (pv 2) pa_nil)) (fun C s H fp => ⟨(show PG _ _ (gTup K 2 _) from pg_tup rfl (pgs_cons (pg_name (i := 0) (by show (["_law_k", "_law_name", "_law_big_here"] : List Str).Nodup; decide) rfl (Or.inl rfl)) (pgs_cons (pg_name (i := 1) (by show (["_law_k", "_law_name", "_law_big_here"] : List Str).Nodup; decide) rfl (Or.inl rfl)) pgs_nil))), pts_one (pt_cmpR op_eq (pe_op op_and (pe_op op_shr (pe_op op_fdiv (pv 2) pe_int) (pv 0)) pe_int) pe_int (nomark _)), pv 1⟩) scTiesBy.nd rfl (Or.inl rfl))) pss_nil) (pss_one (ps_ret (pe_callB (call_sortedSet rfl) rfl mso boot_sorted' (pa_cons (pe_callTy (call_setS rfl) rfl mst boot_set' (pa_cons (pv 5) pa_nil)) pa_nil))))))))))), ?_⟩
  try dsimp only [Cx.wish, cxOf]
  obtain ⟨as, hp, pr⟩ := id nt
  have la : as.length = net.length := pr.length
  obtain ⟨t0', r0', en0⟩ : ∃ t r, net = t :: r := by
    cases net with
    | nil => exact absurd rfl nz
    | cons t r => exact ⟨t, r, rfl⟩
  have np : 0 < net.length := by rw [en0, List.length_cons]; omega
  refine ⟨_, rfl, p, rfl, ⟨_, SqL.of hp⟩, ?_⟩
  refine turns_net (fun t => t.1) hp pr hl (fun a t ha C B c => ?_) (fun nh hnh => ?_)
  · exact ⟨Sle.set _ (Sle.refl _) (fun u z => by cases z), iteT (B := B H) ⟨_, rfl, a, _, _, _, rfl, rfl, SqT.of ha, (by exact atI_nat (j := 0) rfl), c⟩⟩
  have X1 := Ext.new hnh (.lst ((net.map nmF).map V.str))
  refine ⟨_, rfl, p, net, rfl, nt.ext X1, hl, fun sp ps H2 e2 sp0 hsp pok psr pl => ?_⟩
  have E2 := X1.trans e2
  have hnh2 : LsS H2 nh (net.map nmF) := e2 _ _ upd_same
  have pp : 0 < ps.length := by
    have : t0'.2.1 ∈ ps := (pok.2 _).mpr ⟨t0', by rw [en0]; exact List.mem_cons_self, .inl rfl⟩
    exact List.length_pos_of_mem this
  have lpm : (((ps.map V.str).length : Nat) : Int) = (ps.length : Int) := by rw [List.length_map]
  have pos1 : (0 : Int) < (((ps.map V.str).length : Nat) : Int) := by omega
  obtain ⟨a0, a1⟩ := emod_of b pos1
  obtain ⟨c0, c1⟩ := emod_of (b / 20) pos1
  obtain ⟨v1, _, at1⟩ := at_strM (hs := ps) a0 (by omega)
  obtain ⟨v2, _, at2⟩ := at_strM (hs := ps) c0 (by omega)
  refine ⟨_, rfl, _, rfl, _, rfl, sp, _, rfl, .inl (SqL.of hsp), _, _, rfl, rfl, pos1, sp, _, _, _, rfl, rfl, SqL.of hsp, at1, ?_⟩
  refine ⟨_, rfl, _, rfl, _, _, rfl, rfl, ⟨by decide, by decide⟩, _, rfl, sp, _, rfl, .inl (SqL.of hsp), _, _, rfl, rfl, pos1, sp, _, _, _, rfl, rfl, SqL.of hsp, at2, (by show 2 ≤ sizeLine; decide), fun sl hsl => ?_⟩
  have X3 := Ext.new hsl (.lst [V.str v1, V.str v2])
  refine ⟨_, rfl, _, _, rfl, rfl, ⟨by decide, by decide⟩, ?_⟩
  refine ⟨Nat.zero_le _, fun so hso => ?_⟩
  have X4 := X3.trans (Ext.new hso (.lst []))
  obtain ⟨g0, g1⟩ := emod_of (b / 400) (show (0 : Int) < 3 by decide)
  have lnm : ((((net.map nmF).map V.str).length : Nat) : Int) = (net.length : Int) := by rw [List.length_map, List.length_map]
  have lnm2 : (((net.map nmF).length : Nat) : Int) = ((((net.map nmF).map V.str).length : Nat) : Int) := by rw [List.length_map (f := V.str)]
  have pos2 : (0 : Int) < ((((net.map nmF).map V.str).length : Nat) : Int) := by omega
  refine ⟨_, rfl, _, _, rfl, rfl, (by show (0 : Int) < _; decide), _, _, rfl, rfl, 1 + b / 400 % 3, rfl, by omega, by omega, ?_⟩
  refine for_range (lo := 0) (n := (1 + b / 400 % 3).toNat) (fun i σ H' => ∃ (so : Addr) (b' : Int) (some' : List Str) (x6 : Option V), σ = [some (.ref p), some (.int b'), some (.ref nh), some (.ref sp), some (.ref sl), some (.ref so), x6] ∧ Ext H H' ∧ LsS H' nh (net.map nmF) ∧ LsS H' sl [v1, v2] ∧ LsS H' so some' ∧ some'.length ≤ 12 * i ∧ ∀ x ∈ some', x ∈ net.map nmF) ⟨so, _, [], _, rfl, E2.trans X4, X4 _ _ hnh2, (Ext.new hso _) _ _ upd_same, upd_same, Nat.zero_le _, fun x hx => (by cases hx)⟩ ?_ ?_
  · rintro i σ H' hi ⟨so, b', some', x6, rfl, e5, hnh5, hsl5, hso5, l5, sub5⟩
    obtain ⟨d0, d1⟩ := emod_of (b' / 3) pos2
    obtain ⟨tie, tm, at3⟩ := at_strM (hs := net.map nmF) d0 (by rw [lnm2]; exact d1)
    refine ⟨_, rfl, _, rfl, _, rfl, _, rfl, _, _, rfl, rfl, ⟨by decide, by decide⟩, _, rfl, nh, _, rfl, .inl (SqL.of hnh5), _, _, rfl, rfl, pos2, nh, _, _, _, rfl, rfl, SqL.of hnh5, at3, ?_⟩
    refine ⟨_, rfl, _, rfl, _, _, rfl, rfl, ⟨by decide, by decide⟩, _, _, rfl, rfl, (by show (0 : Int) < _; decide), _, _, rfl, rfl, _, rfl, sl, _, rfl, SqL.of hsl5, fun sc hsc => ?_⟩
    obtain ⟨sh, esh⟩ := cut_strs [v1, v2] none (some (1 + b' / 40 % 2))
    have X6 := Ext.new hsc (.lst (sh.map V.str))
    have hsc6 : LsS (upd H' sc (.lst (cutV ([v1, v2].map V.str) none (some (1 + b' / 40 % 2))))) sc sh := by unfold LsS; rw [upd_same, esh]
    have X6' := Ext.new hsc (.lst (cutV ([v1, v2].map V.str) none (some (1 + b' / 40 % 2))))
    refine ⟨p, sc, net, tie, sh, rfl, nt.ext (e5.trans X6'), hl, tx, tm, hsc6, fun r ss H7 e7 r0 hr7 sub7 l7 => ?_⟩
    have E7 := X6'.trans e7
    refine ⟨so, r, _, _, rfl, rfl, E7 _ _ hso5, hr7, ?_, fun so2 hso2 => ?_⟩
    · rw [List.length_map, List.length_map]
      exact Nat.le_of_lt (small1000 (by omega))
    have X8 := Ext.new hso2 (.lst (some'.map V.str ++ ss.map V.str))
    have E8 := E7.trans X8
    refine ⟨_, rfl, _, _, rfl, rfl, ⟨by decide, by decide⟩, so2, _, some' ++ ss, _, rfl, e5.trans E8, E8 _ _ hnh5, E8 _ _ hsl5, by unfold LsS; rw [upd_same, List.map_append], by rw [List.length_append]; omega, fun x hx => ?_⟩
    rcases List.mem_append.mp hx with z | z
    · exact sub5 x z
    · exact sub7 x z
  · rintro σ H' ⟨so, b', some', x6, rfl, e5, hnh5, hsl5, hso5, l5, sub5⟩
    have l36 : some'.length ≤ 36 := by omega
    refine ⟨_, rfl, _, _, rfl, rfl, (by show (0 : Int) < _; decide), rfl, _, rfl, ite2 (fun c => ?_) (fun c => ?_)⟩
    · refine ⟨_, rfl, nh, _, rfl, SqL.of hnh5, ?_⟩
      rw [List.length_map]
      refine turns_tup (fun i ys H6 => Ext H' H6 ∧ ∃ zs : List Str, ys = zs.map V.str ∧ zs.length ≤ i ∧ ∀ z ∈ zs, z ∈ net.map nmF) ⟨Ext.refl _, [], rfl, Nat.le_refl _, fun z hz => (by cases hz)⟩ (fun i ys H6 _ p => SqL.of (p.1 _ _ hnh5)) ?_ ?_
      · rintro i ys H6 T hi ⟨e6, zs, rfl, lz, sz⟩ hT
        have gd : ((net.map nmF).map V.str).getD i .non = .str (net.map nmF)[i] := by rw [List.getD_eq_getElem?_getD, List.getElem?_map, List.getElem?_eq_getElem hi]; rfl
        have hi' : i < net.length := by rwa [List.length_map] at hi
        have e7 := e6.trans (Ext.new hT (.tup [V.int (i : Nat), ((net.map nmF).map V.str).getD i .non]))
        refine ⟨T, _, rfl, SqT.of upd_same, rfl, _, _, rfl, _, _, rfl, rfl, ?_⟩
        refine ⟨Sle.set _ (Sle.set _ (Sle.refl _) (fun u z => by cases z)) (fun u z => by cases z), ?_⟩
        refine ⟨_, rfl, _, _, rfl, rfl, ⟨by decide, by decide⟩, _, rfl, _, _, rfl, rfl, (by show (0 : Int) ≤ _; omega), _, _, rfl, rfl, rfl, _, rfl, ?_⟩
        refine ite2 (fun c => ?_) (fun c => ?_)
        · refine ⟨_, rfl, by rw [List.length_map]; exact small1000 (by omega), nxt hi ⟨e7, zs ++ [(net.map nmF)[i]], by rw [List.map_append, gd]; rfl, by rw [List.length_append]; exact Nat.add_le_add_right lz 1, fun z hz => ?_⟩⟩
          rcases List.mem_append.mp hz with y | y
          · exact sz z y
          · rw [List.mem_singleton] at y
            rw [y]; exact List.getElem_mem hi
        · exact nxt hi ⟨e7, zs, rfl, by omega, sz⟩
      · rintro ys H6 ⟨e6, zs, rfl, lz, sz⟩ so2 hso2
        rw [List.length_map] at lz
        have E7 := (e5.trans e6).trans (Ext.new hso2 (.lst (zs.map V.str)))
        refine ⟨_, rfl, so2, zs, rfl, SqL.of upd_same, by omega, fun S ss hS nd lss mem => ?_⟩
        refine ⟨S, ss, rfl, upd_same, by omega, fun R ss' hR perm srt => ?_⟩
        exact q R ss' _ (E7.trans ((Ext.new hS (SetS P w S ss)).trans (Ext.new hR (.lst (ss'.map V.str))))) ((E7.trans (Ext.new hS _)).none hR) upd_same (perm_rise nd perm srt) fun x hx => sz x ((mem x).mp (perm.mem_iff.mp hx))
    · refine ⟨_, rfl, so, some', rfl, SqL.of hso5, by omega, fun S ss hS nd lss mem => ?_⟩
      refine ⟨S, ss, rfl, upd_same, by omega, fun R ss' hR perm srt => ?_⟩
      exact q R ss' _ (e5.trans ((Ext.new hS (SetS P w S ss)).trans (Ext.new hR (.lst (ss'.map V.str))))) ((e5.trans (Ext.new hS _)).none hR) upd_same (perm_rise nd perm srt) fun x hx => sub5 x ((mem x).mp (perm.mem_iff.mp hx))
end
end My
namespace L2
open PySem PySem.Spec PyProof.Rows
def tNevE : TE := fun _ _ _ => False
theorem pe_nev {X : Cx} {e : Expr} : PE X e tNevE := by
  intro pins s σ H Q I h
  exact h.elim
def tNevT : TT := fun _ _ _ => False
theorem pt_nev {X : Cx} {e : Expr} : PT X e tNevT := by
  intro pins s σ H Q I h
  exact h.elim
end L2
namespace My
open PySem L2
def NoRowV (H : Hp) (x : V) : Prop := ∃ o, RLk H x o ∧ ¬ RowP o
theorem NoRowV.ext {H H' : Hp} {x : V} (h : NoRowV H x) (e : Ext H H') : NoRowV H' x := by
  obtain ⟨o, h1, h2⟩ := h
  exact ⟨o, h1.ext e, h2⟩
def IsLst (H : Hp) (x : V) : Prop := ∃ (a : Addr) (xs : List V), x = .ref a ∧ H a = some (.lst xs)
theorem IsLst.ext {H H' : Hp} {x : V} (h : IsLst H x) (e : Ext H H') : IsLst H' x := by
  obtain ⟨a, xs, h1, h2⟩ := h
  exact ⟨a, xs, h1, e _ _ h2⟩
theorem Ext.sqT {K : PySem.W.Frag} {H H' : Hp} {a : Addr} {xs : List V} (e : Ext H H') (h : SqT K H a xs) : SqT K H' a xs := by
  rcases h with (h | ⟨o, h⟩) | h
  · exact .inl (.inl (e _ _ h))
  · exact .inl (.inr ⟨o, e _ _ h⟩)
  · exact .inr h
mutual
theorem dr_ext {K : PySem.W.Frag} {H H' : Hp} (e : Ext H H') : ∀ {v : V} {D : PyData}, DR K H v D → DR K H' v D
  | _, _, .non => .non
  | _, _, .bl b => .bl b
  | _, _, .int i => .int i
  | _, _, .str x => .str x
  | _, _, .lst hq hd => .lst (e.sqL hq) (drs_ext e hd)
  | _, _, .tup hq hd => .tup (e.sqT hq) (drs_ext e hd)
theorem drs_ext {K : PySem.W.Frag} {H H' : Hp} (e : Ext H H') : ∀ {vs : List V} {Ds : List PyData}, DRs K H vs Ds → DRs K H' vs Ds
  | _, _, .nil => .nil
  | _, _, .cons h t => .cons (dr_ext e h) (drs_ext e t)
end
theorem eqv_strR {D : PyData} {z : Str} (h : PyData.eqv D (.str z) = true) : D = .str z := by
  cases D with
  | str y => exact congrArg PyData.str (by simpa [PyData.eqv] using h)
  | _ => simp [PyData.eqv] at h
def TupN (K : PySem.W.Frag) (H : Hp) (ys : List V) : Prop := ys = [] ∨ ∃ (y0 : V) (r : List V) (D0 : PyData), ys = y0 :: r ∧ DR K H y0 D0 ∧ SeqAt.shaped D0 = true ∧ (D0 = .str "turn" → ∀ y1, r = [y1] → NoRowV H y1) ∧ (D0 = .str "apart" → ∀ y1 y2 y3, r = [y1, y2, y3] → NoRowV H y2) ∧ (D0 = .str "together" → ∀ y1 y2, r = [y1, y2] → IsLst H y1)
theorem TupN.ext {K : PySem.W.Frag} {H H' : Hp} {ys : List V} (h : TupN K H ys) (e : Ext H H') : TupN K H' ys := by
  rcases h with h | ⟨y0, r, D0, h1, h2, h3, h4, h5, h6⟩
  · exact .inl h
  · exact .inr ⟨y0, r, D0, h1, dr_ext e h2, h3, fun z y1 z1 => (h4 z y1 z1).ext e, fun z y1 y2 y3 z1 => (h5 z y1 y2 y3 z1).ext e, fun z y1 y2 z1 => (h6 z y1 y2 z1).ext e⟩
def StepN (K : PySem.W.Frag) (H : Hp) (x : V) : Prop := NotT H x ∨ ∃ (a : Addr) (ys : List V), x = .ref a ∧ H a = some (.tup ys) ∧ ys.length ≤ 100 ∧ TupN K H ys
theorem StepN.ext {K : PySem.W.Frag} {H H' : Hp} {x : V} (h : StepN K H x) (e : Ext H H') : StepN K H' x := by
  rcases h with h | ⟨a, ys, h1, h2, h3, h4⟩
  · exact .inl (h.ext e)
  · exact .inr ⟨a, ys, h1, e _ _ h2, h3, h4.ext e⟩
def spNameN : Sp := fun vs H Q _ => ∃ x : V, vs = [x] ∧ IsLst H x ∧ Q (.bl false) H
def spAreN : Sp := fun vs H Q _ => ∃ (p : Addr) (x : V), vs = [.ref p, x] ∧ NoRowV H x ∧ ∀ H', Ext H H' → Q (.bl false) H'
def spTurnN : Sp := fun vs H Q _ => ∃ (p : Addr) (x : V), vs = [.ref p, x] ∧ NoRowV H x ∧ ∀ H', Ext H H' → Q .non H'
def spApartN : Sp := fun vs H Q _ => ∃ (p : Addr) (x y z : V), vs = [.ref p, x, y, z] ∧ NoRowV H y ∧ ∀ H', Ext H H' → Q .non H'
def spLaidN : Sp := fun vs H Q _ => ∃ (p : Addr) (net : List Tr) (x y : V), vs = [.ref p, x, y] ∧ NetAt H p net ∧ net.length ≤ 12 ∧ IsLst H x ∧ ∀ H', Ext H H' → Q .non H'
def spTriedN (K : PySem.W.Frag) : Sp := fun vs H Q _ => ∃ (p : Addr) (net : List Tr) (x : V), vs = [.ref p, x] ∧ NetAt H p net ∧ net.length ≤ 12 ∧ StepN K H x ∧ ∀ H', Ext H H' → Q .non H'
def spDoneN (K : PySem.W.Frag) (C : Addr) : Sp := fun vs H Q E => ∃ (p : Addr) (net : List Tr) (x : V), vs = [.ref p, x] ∧ NetAt H p net ∧ net.length ≤ 12 ∧ StepN K H x ∧ ∀ H', Ext H H' → E (.ref C) none H'
abbrev vB : List Value := [.type "ValueError", .type "Exception", .type "BaseException", .type "object"]
section
variable {P : Program} {w : World} {K : PySem.W.Frag} {mg : Str → Option Value} {base : Heap} {f f1 f2 f3 C : Addr} {fd fd1 fd2 fd3 : FuncData} {newId inN : String} {bmN : List Value}
theorem ok_nameN (F : Fun K "is_name" "is_name" sName f fd) (mi : mg "isinstance" = none) (ms : mg "str" = none) : FnOk P w K mg base CX0 1 f fd ["thing"] spNameN := by
  refine F.ok scName (fun vs H Q E h => ?_) (fun cdv A outer s H vs Q E hr h => ?_)
  · obtain ⟨x, rfl, _⟩ := h
    rfl
  obtain ⟨x, rfl, ⟨a, xs, rfl, ha⟩, q⟩ := h
  refine ⟨_, pss_cons (ps_if (PW.pt (pw_or (pt_not (pt_val (pe_callB call_isinst rfl mi boot_isinst (pa_cons (pv 0) (pa_cons (pe_bltn (v := .ty "str") rfl ms boot_str' rfl) pa_nil)))))
      (pw_or pt_nev (pw_or1 pt_nev))))
      (pss_one (ps_ret pe_bl)) pss_nil)
    pss_never, ?_⟩
  try dsimp only [Cx.wish, cxOf]
  exact ⟨_, rfl, _, _, _, false, rfl, .lst ha, lk K, false, rfl, iteT (iteT q)⟩
theorem scAre : FnScope ["net", "thing"] ["net", "thing"] (defScope sAre) := ⟨rfl, rfl, rfl, by decide +kernel, rfl, by decide +kernel, by decide +kernel⟩
theorem ok_areN (F : Fun K "are_ties" "are_ties" sAre f fd) (G1 : FnOk P w K mg base CX0 2 f1 fd1 ["thing"] (spIsRow K)) (bG1 : Binds K fd1 ["thing"] []) (kG1 : PySem.W.keepIn K (.ref f1) = true) (mG1 : mg "is_row" = some (.ref f1)) : FnOk P w K mg base CX0 3 f fd ["net", "thing"] spAreN := by
  refine F.ok scAre (fun vs H Q E h => ?_) (fun cdv A outer s H vs Q E hr h => ?_)
  · obtain ⟨p, x, rfl, _⟩ := h
    rfl
  obtain ⟨p, x, rfl, ⟨o, rl, no⟩, q⟩ := h
  refine ⟨_, pss_one (ps_ret (pe_and (pe_call G1 hr rfl mG1 kG1 bG1 .nil pass0 (pa_cons (pv 1) pa_nil)) (pe_one pe_nev))), ?_⟩
  try dsimp only [Cx.wish, cxOf]
  refine ⟨_, rfl, ?_⟩
  dsimp only [tNil]
  refine rowLk rl (fun b H1 eb e1 => ⟨_, rfl, ?_⟩)
  refine ite2 (fun c => absurd (eb.mp c) no) (fun c => q _ e1)
theorem scTurned : FnScope ["net", "ties", "shared", "one", "other"] ["net", "ties"] (defScope sTurned) := ⟨rfl, rfl, rfl, by decide +kernel, rfl, by decide +kernel, by decide +kernel⟩
theorem ok_turnN (F : Fun K "turned" "turned" sTurned f fd) (G2 : FnOk P w K mg base CX0 3 f2 fd2 ["net", "thing"] spAreN) (bG2 : Binds K fd2 ["net", "thing"] []) (kG2 : PySem.W.keepIn K (.ref f2) = true) (mG2 : mg "are_ties" = some (.ref f2)) (ml : mg "len" = none) : FnOk P w K mg base CX0 4 f fd ["net", "ties"] spTurnN := by
  refine F.ok scTurned (fun vs H Q E h => ?_) (fun cdv A outer s H vs Q E hr h => ?_)
  · obtain ⟨p, x, rfl, _⟩ := h
    rfl
  obtain ⟨p, x, rfl, no, q⟩ := h
  refine ⟨_, pss_cons (ps_set (i := 2) scTurned.nd rfl (Or.inl rfl) (pe_ifExp (pt_val (pe_call G2 hr rfl mG2 kG2 bG2 .nil pass0 (pa_cons (pv 0) (pa_cons (pv 1) pa_nil)))) pe_nev (pe_lst pa_nil)))
    (pss_cons (ps_if (pt_cmpR op_ne (pe_callB call_len_seq rfl ml PySem.boot_len (pa_cons (pv 2) pa_nil)) pe_int (nomark _)) (pss_one (ps_ret pe_non)) pss_nil)
    pss_never), ?_⟩
  try dsimp only [Cx.wish, cxOf]
  refine ⟨_, rfl, _, rfl, p, x, rfl, no, fun H1 e1 => ⟨_, rfl, iteF ?_⟩⟩
  refine ⟨Nat.zero_le _, fun l0 hl0 => ?_⟩
  refine ⟨_, rfl, l0, _, rfl, .inl (SqL.of upd_same), rfl, _, rfl, ?_⟩
  exact iteT (q _ (e1.trans (Ext.new hl0 _)))
theorem scApart : FnScope ["net", "point", "ties", "new"] ["net", "point", "ties", "new"] (defScope sSetApart) := ⟨rfl, rfl, rfl, by decide +kernel, rfl, by decide +kernel, by decide +kernel⟩
theorem ok_apartN (F : Fun K "set_apart" "set_apart" sSetApart f fd) (G1 : FnOk P w K mg base CX0 3 f1 fd1 ["net", "thing"] spAreN) (bG1 : Binds K fd1 ["net", "thing"] []) (kG1 : PySem.W.keepIn K (.ref f1) = true) (mG1 : mg "are_ties" = some (.ref f1)) : FnOk P w K mg base CX0 4 f fd ["net", "point", "ties", "new"] spApartN := by
  refine F.ok scApart (fun vs H Q E h => ?_) (fun cdv A outer s H vs Q E hr h => ?_)
  · obtain ⟨p, x, y, z, rfl, _⟩ := h
    rfl
  obtain ⟨p, x, y, z, rfl, no, q⟩ := h
  refine ⟨_, pss_cons (ps_if (PW.pt (pw_or (pt_not (pt_val (pe_call G1 hr rfl mG1 kG1 bG1 .nil pass0 (pa_cons (pv 0) (pa_cons (pv 2) pa_nil))))) (pw_or pt_nev (pw_or1 pt_nev)))) (pss_one (ps_ret pe_non)) pss_nil) pss_never, ?_⟩
  try dsimp only [Cx.wish, cxOf]
  exact ⟨_, rfl, _, rfl, p, y, rfl, no, fun H1 e1 => ⟨_, rfl, iteT (iteT (q _ e1))⟩⟩
theorem scLaid : FnScope ["net", "point", "other", "home"] ["net", "point", "other"] (defScope sLaid) := ⟨rfl, rfl, rfl, by decide +kernel, rfl, by decide +kernel, by decide +kernel⟩
theorem ok_laidN (F : Fun K "laid_together" "laid_together" sLaid f fd) (G1 : FnOk P w K mg base CX0 2 f1 fd1 ["net"] spHomes) (bG1 : Binds K fd1 ["net"] []) (kG1 : PySem.W.keepIn K (.ref f1) = true) (mG1 : mg "homes" = some (.ref f1))
    (G2 : FnOk P w K mg base CX0 1 f2 fd2 ["thing"] spNameN) (bG2 : Binds K fd2 ["thing"] []) (kG2 : PySem.W.keepIn K (.ref f2) = true) (mG2 : mg "is_name" = some (.ref f2)) : FnOk P w K mg base CX0 3 f fd ["net", "point", "other"] spLaidN := by
  refine F.ok scLaid (fun vs H Q E h => ?_) (fun cdv A outer s H vs Q E hr h => ?_)
  · obtain ⟨p, net, x, y, rfl, _⟩ := h
    rfl
  obtain ⟨p, net, x, y, rfl, nt, hl, ix, q⟩ := h
  have hr1 := hr.mono (j := 1) (by decide)
  refine ⟨_, (pss_cons (ps_set (i := 3) scLaid.nd rfl (Or.inl rfl) (pe_call G1 hr rfl mG1 kG1 bG1 .nil pass0 (pa_cons (pv 0) pa_nil))) (pss_cons (ps_if (PW.pt (pw_or (pt_not (pt_val (pe_call G2 hr1 rfl mG2 kG2 bG2 .nil pass0 (pa_cons (pv 1) pa_nil)))) (pw_or pt_nev (pw_or pt_nev (pw_or1 pt_nev))))) (pss_one (ps_ret pe_non)) pss_nil) pss_never)), ?_⟩
  try dsimp only [Cx.wish, cxOf]
  refine ⟨_, rfl, p, net, rfl, nt, hl, fun ho ps H1 e1 ho0 hho pok pl => ?_⟩
  exact ⟨_, rfl, x, rfl, ix.ext e1, ⟨_, rfl, iteT (iteT (q _ e1))⟩⟩
theorem scTried : FnScope ["net", "step"] ["net", "step"] (defScope sTried) := ⟨rfl, rfl, rfl, by decide +kernel, rfl, by decide +kernel, by decide +kernel⟩
theorem shaped_str' {z : Str} (h : PyData.strOk z = true) : SeqAt.shaped (.str z) = true := by
  show (PyData.strOk z && _) = true
  rw [h]; rfl
theorem len_one {r : List V} {y : V} (c : (y :: r).length = 2) : ∃ y1, r = [y1] := by
  match r, c with
  | [y1], _ => exact ⟨y1, rfl⟩
theorem len_two {r : List V} {y : V} (c : (y :: r).length = 3) : ∃ y1 y2, r = [y1, y2] := by
  match r, c with
  | [y1, y2], _ => exact ⟨y1, y2, rfl⟩
theorem len_three {r : List V} {y : V} (c : (y :: r).length = 4) : ∃ y1 y2 y3, r = [y1, y2, y3] := by
  match r, c with
  | [y1, y2, y3], _ => exact ⟨y1, y2, y3, rfl⟩
set_option maxHeartbeats 8000000 in
theorem ok_triedN (F : Fun K "tried" "tried" sTried f fd) (G1 : FnOk P w K mg base CX0 4 f1 fd1 ["net", "ties"] spTurnN) (bG1 : Binds K fd1 ["net", "ties"] []) (kG1 : PySem.W.keepIn K (.ref f1) = true) (mG1 : mg "turned" = some (.ref f1))
    (G2 : FnOk P w K mg base CX0 4 f2 fd2 ["net", "point", "ties", "new"] spApartN) (bG2 : Binds K fd2 ["net", "point", "ties", "new"] []) (kG2 : PySem.W.keepIn K (.ref f2) = true) (mG2 : mg "set_apart" = some (.ref f2))
    (G3 : FnOk P w K mg base CX0 3 f3 fd3 ["net", "point", "other"] spLaidN) (bG3 : Binds K fd3 ["net", "point", "other"] []) (kG3 : PySem.W.keepIn K (.ref f3) = true) (mG3 : mg "laid_together" = some (.ref f3))
    (ml : mg "len" = none) (mi : mg "isinstance" = none) (mt : mg "tuple" = none) : FnOk P w K mg base CX0 5 f fd ["net", "step"] (spTriedN K) := by
  refine F.ok scTried (fun vs H Q E h => ?_) (fun cdv A outer s H vs Q E hr h => ?_)
  · obtain ⟨p, net, x, rfl, _⟩ := h
    rfl
  obtain ⟨p, net, x, rfl, nt, hl, sn, q⟩ := h
  have hr3 := hr.mono (j := 3) (by decide)
  refine ⟨_, (pss_cons (ps_if (PW.pt (pw_or (pt_not (pt_val (pe_callB call_isinst rfl mi boot_isinst (pa_cons (pv 1) (pa_cons (pe_bltn (v := .ty "tuple") rfl mt boot_tuple' rfl) pa_nil))))) (pw_or1 (pt_cmpR op_eq (pe_callB call_len_seq rfl ml PySem.boot_len (pa_cons (pv 1) pa_nil)) pe_int (nomark _))))) (pss_one (ps_ret pe_non)) pss_nil)
    (pss_cons (ps_if (PW.pt (pw_and (pt_cmpR (op_eqD (room64 hr)) (pe_ix ix_tup (pv 1) pe_int (fun _ _ => rfl)) pe_str (nomark _)) (pw_and1 (pt_cmpR op_eq (pe_callB call_len_seq rfl ml PySem.boot_len (pa_cons (pv 1) pa_nil)) pe_int (nomark _))))) (pss_one (ps_ret (pe_call G1 hr rfl mG1 kG1 bG1 .nil pass0 (pa_cons (pv 0) (pa_cons (pe_ix ix_tup (pv 1) pe_int (fun _ _ => rfl)) pa_nil))))) pss_nil)
    (pss_cons (ps_if (PW.pt (pw_and (pt_cmpR (op_eqD (room64 hr)) (pe_ix ix_tup (pv 1) pe_int (fun _ _ => rfl)) pe_str (nomark _)) (pw_and1 (pt_cmpR op_eq (pe_callB call_len_seq rfl ml PySem.boot_len (pa_cons (pv 1) pa_nil)) pe_int (nomark _))))) (pss_one (ps_ret (pe_call G2 hr rfl mG2 kG2 bG2 .nil pass0 (pa_cons (pv 0) (pa_cons (pe_ix ix_tup (pv 1) pe_int (fun _ _ => rfl)) (pa_cons (pe_ix ix_tup (pv 1) pe_int (fun _ _ => rfl)) (pa_cons (pe_ix ix_tup (pv 1) pe_int (fun _ _ => rfl)) pa_nil))))))) pss_nil)
    (pss_cons (ps_if (PW.pt (pw_and (pt_cmpR (op_eqD (room64 hr)) (pe_ix ix_tup (pv 1) pe_int (fun _ _ => rfl)) pe_str (nomark _)) (pw_and1 (pt_cmpR op_eq (pe_callB call_len_seq rfl ml PySem.boot_len (pa_cons (pv 1) pa_nil)) pe_int (nomark _))))) (pss_one (ps_ret (pe_call G3 hr3 rfl mG3 kG3 bG3 .nil pass0 (pa_cons (pv 0) (pa_cons (pe_ix ix_tup (pv 1) pe_int (fun _ _ => rfl)) (pa_cons (pe_ix ix_tup (pv 1) pe_int (fun _ _ => rfl)) pa_nil)))))) pss_nil)
    (pss_one (ps_ret pe_non)))))), ?_⟩
  try dsimp only [Cx.wish, cxOf]
  rcases sn with nt' | ⟨st, ys, rfl, hst, ly, tn⟩
  · obtain ⟨t, ty, kt⟩ := nt'.ty K
    exact ⟨_, rfl, _, _, _, false, rfl, ty, kt, false, rfl, iteT (iteT (q _ (Ext.refl _)))⟩
  refine ⟨_, rfl, _, _, _, true, rfl, .tup hst, kit_same _ _, true, rfl, iteF ?_⟩
  refine ⟨_, rfl, st, _, rfl, .inr (SqT.of hst), rfl, _, rfl, ?_⟩
  rcases tn with rfl | ⟨y0, r, D0, rfl, hd, sh, n1, n2, n3⟩
  · exact iteT (q _ (Ext.refl _))
  refine ite2 (fun c => q _ (Ext.refl _)) (fun c => ?_)
  refine ⟨_, rfl, st, _, _, _, rfl, rfl, SqT.of hst, (by exact atI_nat (j := 0) rfl), D0, _, hd, .str _, sh, shaped_str' (by decide +kernel), _, rfl, ite2 (fun c1 => ?_) (fun c1 => iteF ?_)⟩
  · have d1 := eqv_strR c1
    refine ⟨_, rfl, st, _, rfl, .inr (SqT.of hst), rfl, _, rfl, ite2 (fun c2 => ?_) (fun c2 => ?_)⟩
    · obtain ⟨y1, rfl⟩ := len_one (r := r) (y := y0) (by have : (((y0 :: r).length : Nat) : Int) = 2 := (by simpa using c2); omega)
      exact ⟨_, rfl, _, rfl, st, _, _, _, rfl, rfl, SqT.of hst, (by exact atI_nat (j := 1) rfl), p, _, rfl, n1 d1 _ rfl, q⟩
    · refine ⟨_, rfl, st, _, _, _, rfl, rfl, SqT.of hst, (by exact atI_nat (j := 0) rfl), D0, _, hd, .str _, sh, shaped_str' (by decide +kernel), _, rfl, ite2 (fun c9 => absurd c9 (by rw [d1]; decide +kernel)) (fun _ => iteF ?_)⟩
      refine ⟨_, rfl, st, _, _, _, rfl, rfl, SqT.of hst, (by exact atI_nat (j := 0) rfl), D0, _, hd, .str _, sh, shaped_str' (by decide +kernel), _, rfl, ite2 (fun c9 => absurd c9 (by rw [d1]; decide +kernel)) (fun _ => iteF (q _ (Ext.refl _)))⟩
  refine ⟨_, rfl, st, _, _, _, rfl, rfl, SqT.of hst, (by exact atI_nat (j := 0) rfl), D0, _, hd, .str _, sh, shaped_str' (by decide +kernel), _, rfl, ite2 (fun c1 => ?_) (fun c1 => iteF ?_)⟩
  · have d1 := eqv_strR c1
    refine ⟨_, rfl, st, _, rfl, .inr (SqT.of hst), rfl, _, rfl, ite2 (fun c2 => ?_) (fun c2 => ?_)⟩
    · obtain ⟨y1, y2, y3, rfl⟩ := len_three (r := r) (y := y0) (by have : (((y0 :: r).length : Nat) : Int) = 4 := (by simpa using c2); omega)
      exact ⟨_, rfl, _, rfl, st, _, _, _, rfl, rfl, SqT.of hst, (by exact atI_nat (j := 1) rfl), _, rfl, st, _, _, _, rfl, rfl, SqT.of hst, (by exact atI_nat (j := 2) rfl), _, rfl, st, _, _, _, rfl, rfl, SqT.of hst, (by exact atI_nat (j := 3) rfl), p, _, _, _, rfl, n2 d1 _ _ _ rfl, q⟩
    · refine ⟨_, rfl, st, _, _, _, rfl, rfl, SqT.of hst, (by exact atI_nat (j := 0) rfl), D0, _, hd, .str _, sh, shaped_str' (by decide +kernel), _, rfl, ite2 (fun c9 => absurd c9 (by rw [d1]; decide +kernel)) (fun _ => iteF (q _ (Ext.refl _)))⟩
  refine ⟨_, rfl, st, _, _, _, rfl, rfl, SqT.of hst, (by exact atI_nat (j := 0) rfl), D0, _, hd, .str _, sh, shaped_str' (by decide +kernel), _, rfl, ite2 (fun c1 => ?_) (fun c1 => iteF (q _ (Ext.refl _)))⟩
  have d1 := eqv_strR c1
  refine ⟨_, rfl, st, _, rfl, .inr (SqT.of hst), rfl, _, rfl, ite2 (fun c2 => ?_) (fun c2 => q _ (Ext.refl _))⟩
  obtain ⟨y1, y2, rfl⟩ := len_two (r := r) (y := y0) (by have : (((y0 :: r).length : Nat) : Int) = 3 := (by simpa using c2); omega)
  exact ⟨_, rfl, _, rfl, st, _, _, _, rfl, rfl, SqT.of hst, (by exact atI_nat (j := 1) rfl), _, rfl, st, _, _, _, rfl, rfl, SqT.of hst, (by exact atI_nat (j := 2) rfl), p, net, _, _, rfl, nt, hl, n3 d1 _ _ rfl, q⟩
theorem scDone : FnScope ["net", "step", "told"] ["net", "step"] (defScope sDone) := ⟨rfl, rfl, rfl, by decide +kernel, rfl, by decide +kernel, by decide +kernel⟩
set_option maxHeartbeats 4000000 in
theorem ok_doneN (F : Fun K "step_done" "step_done" sDone f fd) (Fn : ExcBaseFacts "ValueError" newId inN bmN) (FB : ExcBaseFacts "ValueError" "ValueError.__new__" "ValueError.__init__" vB) (O : PyProof.Rows.OwnCls "NoStep" C vB newId mg base)
    (G1 : FnOk P w K mg base CX0 5 f1 fd1 ["net", "step"] (spTriedN K)) (bG1 : Binds K fd1 ["net", "step"] []) (kG1 : PySem.W.keepIn K (.ref f1) = true) (mG1 : mg "tried" = some (.ref f1)) : FnOk P w K mg base (CXe P w) 6 f fd ["net", "step"] (spDoneN K C) := by
  refine F.okE scDone (fun vs H Q E h => ?_) (fun cdv A outer s H vs Q E hr hh h => ?_)
  · obtain ⟨p, net, x, rfl, _⟩ := h
    rfl
  obtain ⟨p, net, x, rfl, nt, hl, sn, q⟩ := h
  refine ⟨_, pss_cons (ps_set (i := 2) scDone.nd rfl (Or.inl rfl) (pe_call G1 hr rfl mG1 kG1 bG1 .nil pass0 (pa_cons (pv 0) (pa_cons (pv 1) pa_nil))))
    (pss_cons (ps_if (pt_cmpR op_isN (pv 2) pe_non (nomark _)) (pss_one (ps_raise hh Fn (by decide) FB O (pa_cons pe_str pa_nil) rfl (by decide))) pss_nil)
    pss_never), ?_⟩
  try dsimp only [Cx.wish, cxOf]
  refine ⟨_, rfl, _, rfl, p, net, x, rfl, nt, hl, sn, fun H1 e1 => ?_⟩
  refine ⟨_, rfl, rfl, _, rfl, iteT ?_⟩
  exact ⟨(by show 1 ≤ sizeLine; decide), q _ e1⟩
end
end My
namespace L2
open PySem PySem.Spec PyProof.Rows
theorem vals_refX : ∀ {cs : List Addr} {its : List Value}, Vals (cs.map V.ref) its → its = cs.map Value.ref
  | [], _, r => by cases r; rfl
  | c :: cs, _, r => by
    cases r with
    | cons r1 r2 => rw [vals_refX r2, List.map_cons, show _ = Value.ref c from r1]
def rIsXT (K : PySem.W.Frag) : List V → Hp → VK → Prop := fun xs H Q => ∃ (a D tp : Addr) (cs : List Addr) (b : Bool), xs = [.ref a, .ref tp] ∧ H a = some (exO a (.ref D)) ∧ XCls K D ∧ SqT K H tp (cs.map V.ref) ∧ PySem.W.kitAny K (.ref D) (cs.map Value.ref) = some b ∧ Q (.bl b) H
theorem call_isXT {X : Cx} : CallR X (.builtin "isinstance") (rIsXT X.K) := by
  intro pins s σ H xs us Q I r h
  obtain ⟨a, D, tp, cs, b, rfl, ha, Z, ht, e, q⟩ := h
  obtain ⟨u, w', rfl, rx, rc⟩ := vals2 r
  cases (show u = Value.ref a from rx)
  cases (show w' = Value.ref tp from rc)
  have ok : ObjOk X.prog X.w H s.heap a (exO a (.ref D)) := I.hok a _ ha
  obtain ⟨its, rv, ⟨⟨cl, dd, dt, sl⟩, g, hc, n, hd⟩, _⟩ := I.tuple ht
  cases vals_refX rv
  cases hc
  cases hd
  exact PySem.W.kia_tup (kitx_exc Z) I.kIn ok.1 g e (fun z => nomatch z) fun tk => ⟨.bl b, H, I.tok tk, rfl, q⟩
end L2
namespace My
open PySem L2
theorem boot_VE : bootBuiltins "ValueError" = some (.type "ValueError") := by decide +kernel
def spLRef (K : PySem.W.Frag) : Sp := fun vs H Q _ => ∃ (p : Addr) (net : List Tr) (x : V), vs = [.ref p, x] ∧ NetAt H p net ∧ net.length ≤ 12 ∧ StepN K H x ∧ ∀ H', Ext H H' → Q (.bl true) H'
structure Refs (K : PySem.W.Frag) (mg : Str → Option Value) (C R : Addr) : Prop where
  z : XCls K C
  re : mg "RoundError" = some (.ref R)
  xr : PySem.W.exmOne K (.ref C) (.ref R) = some true
  nn : mg "NoStep" = some (.ref C)
  ve : mg "ValueError" = none
  kv : PySem.W.kitOne K (.ref C) (.type "ValueError") = some true
  is : mg "isinstance" = none
  a1 : ∃ c, mg "NoNet" = some (.ref c) ∧ PySem.W.kitOne K (.ref C) (.ref c) = some false
  a2 : ∃ c, mg "NoTie" = some (.ref c) ∧ PySem.W.kitOne K (.ref C) (.ref c) = some false
  a3 : ∃ c, mg "NoMatch" = some (.ref c) ∧ PySem.W.kitOne K (.ref C) (.ref c) = some false
theorem len3' {α : Type} {l : List α} (h : l.length = 3) : ∃ a b c, l = [a, b, c] := match l, h with | [a, b, c], _ => ⟨a, b, c, rfl⟩
theorem kit_none3 {K : PySem.W.Frag} {t : Value} {c1 c2 c3 : Addr} (k1 : PySem.W.kitOne K t (.ref c1) = some false) (k2 : PySem.W.kitOne K t (.ref c2) = some false) (k3 : PySem.W.kitOne K t (.ref c3) = some false) : PySem.W.kitAny K t ([c1, c2, c3].map Value.ref) = some false := by
  show PySem.W.kitAny K t [.ref c1, .ref c2, .ref c3] = some false
  unfold PySem.W.kitAny
  rw [k1]
  dsimp only
  unfold PySem.W.kitAny
  rw [k2]
  dsimp only
  unfold PySem.W.kitAny
  rw [k3]
  dsimp only
  unfold PySem.W.kitAny
  rfl
abbrev rfN : List Str := ["_law_net", "_law_step", "e"]
theorem scLRef : FnScope rfN ["_law_net", "_law_step"] (defScope sLRef) := ⟨rfl, rfl, rfl, by decide +kernel, rfl, by decide +kernel, by decide +kernel⟩
section
variable {P : Program} {w : World} {K : PySem.W.Frag} {mg : Str → Option Value} {base : Heap} {f f1 f2 f3 C R : Addr} {fd fd1 fd2 fd3 : FuncData}
set_option maxHeartbeats 8000000 in
theorem ok_lref (F : Fun K "_law_refused" "_law_refused" sLRef f fd) (Z : Refs K mg C R)
    (G1 : FnOk P w K mg base (CXe P w) 6 f1 fd1 ["net", "step"] (spDoneN K C)) (bG1 : Binds K fd1 ["net", "step"] []) (kG1 : PySem.W.keepIn K (.ref f1) = true) (mG1 : mg "step_done" = some (.ref f1)) :
    FnOk P w K mg base CX0 7 f fd ["_law_net", "_law_step"] (spLRef K) := by
  refine F.ok scLRef (fun vs H Q E h => ?_) (fun cdv A outer s H vs Q E hr h => ?_)
  · obtain ⟨p, net, x, rfl, _⟩ := h
    rfl
  obtain ⟨p, net, x, rfl, nt, hl, sn, q⟩ := h
  obtain ⟨c1, m1, k1⟩ := Z.a1
  obtain ⟨c2, m2, k2⟩ := Z.a2
  obtain ⟨c3, m3, k3⟩ := Z.a3
  refine ⟨_, pss_cons (ps_try (C := R) (i := 2) (E := fun cls _ H' => cls = .ref C ∧ Ext H H')
      (fun xe pn hP => pss_one (ps_expr (pe_call G1 hr rfl mG1 kG1 bG1 .nil hP (pa_cons (pv 0) (pa_cons (pv 1) pa_nil)))))
      rfl Z.re
      (fun ev => pss_one (ps_ret (pe_and (pe_callB (show CallR _ _ (rIsX K) from call_isX) rfl Z.is boot_isinst (pa_cons (pv 2) (pa_cons (pe_glob (v := .ref C) rfl Z.nn rfl) pa_nil)))
          (pe_and (pe_callB (show CallR _ _ (rIsX K) from call_isX) rfl Z.is boot_isinst (pa_cons (pv 2) (pa_cons (pe_bltn (v := .ty "ValueError") rfl Z.ve boot_VE rfl) pa_nil)))
          (pe_one (pe_not (pe_callB (show CallR _ _ (rIsXT K) from call_isXT) rfl Z.is boot_isinst (pa_cons (pv 2) (pa_cons (pe_tup (pa_cons (pe_glob (v := .ref c1) rfl m1 rfl) (pa_cons (pe_glob (v := .ref c2) rfl m2 rfl) (pa_cons (pe_glob (v := .ref c3) rfl m3 rfl) pa_nil)))) pa_nil)))))))))
      scLRef.nd rfl rfl rfl rfl rfl) pss_never, ?_⟩
  try dsimp only [Cx.wish, cxOf]
  refine ⟨⟨_, rfl, _, rfl, p, net, x, rfl, nt, hl, sn, fun H' e => ⟨rfl, e⟩⟩, fun cls H' ea σ' hE he hl => ?_⟩
  obtain ⟨rfl, e1⟩ := hE
  refine ⟨Z.xr, ?_⟩
  obtain ⟨x0, x1, x2, rfl⟩ := len3' hl
  have hx : upd H' ea (exO ea (.ref C)) ea = some (exO ea (.ref C)) := upd_same
  have E1 : Ext H (upd H' ea (exO ea (.ref C))) := e1.trans (Ext.new he _)
  revert hx E1
  generalize upd H' ea (exO ea (.ref C)) = H1
  intro hx E1
  refine ⟨_, rfl, ⟨ea, C, .ref C, .ref C, true, rfl, hx, Z.z, fun u r => r, (by unfold PySem.W.kitOne; rw [if_pos (beq_iff_eq.mpr rfl)]), true, rfl, iteT ?_⟩⟩
  refine ⟨_, rfl, ⟨ea, C, .ty "ValueError", .type "ValueError", true, rfl, hx, Z.z, fun u r => r, Z.kv, true, rfl, iteT ?_⟩⟩
  refine ⟨_, rfl, (by show 3 ≤ sizeLine; decide), fun T hT => ?_⟩
  have n1 := Ext.new hT (.tup [V.ref c1, V.ref c2, V.ref c3])
  exact ⟨ea, C, T, [c1, c2, c3], false, rfl, n1 _ _ hx, Z.z, SqT.of upd_same, kit_none3 k1 k2 k3, false, rfl, q _ (E1.trans n1)⟩
end
end My
namespace L2
open PySem PySem.Spec PyProof.Rows
theorem PE.imp {X : Cx} {e : Expr} {t t' : TE} (h : PE X e t) (i : ∀ σ H Q, t' σ H Q → t σ H Q) : PE X e t' := fun pins s σ H Q I hw => h pins s σ H Q I (i σ H Q hw)
theorem PA.imp {X : Cx} {es : List Expr} {t t' : TA} (h : PA X es t) (i : ∀ σ H Q, t' σ H Q → t σ H Q) : PA X es t' := fun pos pins s σ H Q I hw => h pos pins s σ H Q I (i σ H Q hw)
theorem PS.imp {X : Cx} {st : Stmt} {t t' : TS} (h : PS X st t) (i : ∀ D σ H, t' D σ H → t D σ H) : PS X st t' := fun pins s σ H D I hw => h pins s σ H D I (i D σ H hw)
def tOrL (K : PySem.W.Frag) (ta tb : TE) : TE := fun σ H Q => ta σ H fun x H1 => ∃ k, TruV K x H1 k ∧ if k = true then Q x H1 else tb σ H1 Q
theorem pe_orL {X : Cx} {a b : Expr} {rest : List Expr} {pos : Pos} {ta tb : TE} (ha : PE X a ta) (hb : PE X (.BoolOp .Or (b :: rest) pos) tb) : PE X (.BoolOp .Or (a :: b :: rest) pos) (tOrL X.K ta tb) := by
  intro pins s σ H Q I h
  refine BoolOp_or (thn (ha pins s σ H _ I h) fun v s1 ⟨x, H1, I1, r1, q1⟩ => ?_)
  obtain ⟨k, tv, q1⟩ := q1
  refine thn (tru_ok pins s1 σ H1 x v (fun c H2 => c = k ∧ H2 = H1) I1 r1 ⟨k, tv, rfl, rfl⟩) fun c s2 ⟨H2, I2, ec, eh⟩ => ?_
  subst ec
  subst eh
  cases c with
  | true => exact ⟨x, _, I2, r1, q1⟩
  | false => exact hb pins s2 σ _ Q I2 q1
def rJoin : V → List V → Hp → VK → Prop := fun x vs H Q => ∃ (l : Addr) (ss : List Str) (z : Str), x = .str z ∧ vs = [.ref l] ∧ H l = some (.lst (ss.map V.str)) ∧ (ss.map (·.length)).sum + ss.length * z.length ≤ 16777216 ∧ Q (.str (Txt.join z ss)) H
theorem mt_join {X : Cx} : MtR X "str.join" rJoin := by
  intro pins s σ H x vs v us Q I rx rv h
  obtain ⟨l, ss, z, rfl, rfl, hH, hz, q⟩ := h
  obtain ⟨t, rfl⟩ := rx
  obtain ⟨u, rfl, ru⟩ := rv.one
  cases ru
  obtain ⟨zz, its, n, r, hl, e⟩ := I.lstM hH
  exact join_list (items := its.toArray) ⟨_, e, rfl, n, rfl⟩ (strsAre_of r) hz fun t' k => ⟨.str _, H, I.tok _, ⟨_, rfl⟩, q⟩
structure PAx (X : Cx) (es : List Expr) (t : TA) : Prop where
  h : PA X es t
structure PEx (X : Cx) (e : Expr) (t : TE) : Prop where
  h : PE X e t
end L2
namespace My
open PySem L2
mutual
inductive Dh (H : Hp) : V → PyData → Prop
  | non : Dh H .non .none
  | bl (b : Bool) : Dh H (.bl b) (.bool b)
  | int (i : Int) : Dh H (.int i) (.int i)
  | str (x : Str) : Dh H (.str x) (.str x)
  | lst {a : Addr} {xs : List V} {ds : List PyData} : H a = some (.lst xs) → Dhs H xs ds → Dh H (.ref a) (.list ds)
  | tup {a : Addr} {xs : List V} {ds : List PyData} : H a = some (.tup xs) → Dhs H xs ds → Dh H (.ref a) (.tuple ds)
inductive Dhs (H : Hp) : List V → List PyData → Prop
  | nil : Dhs H [] []
  | cons {v : V} {d : PyData} {vs : List V} {ds : List PyData} : Dh H v d → Dhs H vs ds → Dhs H (v :: vs) (d :: ds)
end
mutual
theorem Dh.ext {H H' : Hp} (e : Ext H H') : ∀ {v : V} {D : PyData}, Dh H v D → Dh H' v D
  | _, _, .non => .non
  | _, _, .bl b => .bl b
  | _, _, .int i => .int i
  | _, _, .str x => .str x
  | _, _, .lst hq hd => .lst (e _ _ hq) (Dhs.ext e hd)
  | _, _, .tup hq hd => .tup (e _ _ hq) (Dhs.ext e hd)
theorem Dhs.ext {H H' : Hp} (e : Ext H H') : ∀ {vs : List V} {Ds : List PyData}, Dhs H vs Ds → Dhs H' vs Ds
  | _, _, .nil => .nil
  | _, _, .cons h t => .cons (Dh.ext e h) (Dhs.ext e t)
end
mutual
theorem Dh.dr {K : PySem.W.Frag} {H : Hp} : ∀ {v : V} {D : PyData}, Dh H v D → DR K H v D
  | _, _, .non => .non
  | _, _, .bl b => .bl b
  | _, _, .int i => .int i
  | _, _, .str x => .str x
  | _, _, .lst hq hd => .lst (SqL.of hq) (Dhs.dr hd)
  | _, _, .tup hq hd => .tup (SqT.of hq) (Dhs.dr hd)
theorem Dhs.dr {K : PySem.W.Frag} {H : Hp} : ∀ {vs : List V} {Ds : List PyData}, Dhs H vs Ds → DRs K H vs Ds
  | _, _, .nil => .nil
  | _, _, .cons h t => .cons (Dh.dr h) (Dhs.dr t)
end
theorem Dhs.app {H : Hp} : ∀ {vs vs' : List V} {Ds Ds' : List PyData}, Dhs H vs Ds → Dhs H vs' Ds' → Dhs H (vs ++ vs') (Ds ++ Ds')
  | _, _, _, _, .nil, h => h
  | _, _, _, _, .cons a b, h => .cons a (Dhs.app b h)
theorem Dhs.rev {H : Hp} : ∀ {vs : List V} {Ds : List PyData}, Dhs H vs Ds → Dhs H vs.reverse Ds.reverse
  | _, _, .nil => .nil
  | _, _, .cons a b => by
    rw [List.reverse_cons, List.reverse_cons]
    exact (Dhs.rev b).app (.cons a .nil)
theorem Dhs.len {H : Hp} : ∀ {vs : List V} {Ds : List PyData}, Dhs H vs Ds → vs.length = Ds.length
  | _, _, .nil => rfl
  | _, _, .cons a b => congrArg (· + 1) (Dhs.len b)
theorem Dhs.get {H : Hp} : ∀ {vs : List V} {Ds : List PyData} (i : Nat) {v : V}, Dhs H vs Ds → vs[i]? = some v → ∃ D, Ds[i]? = some D ∧ Dh H v D
  | _, _, _, _, .nil, h => by cases h
  | _, _, 0, _, .cons a b, h => by cases Option.some.inj h; exact ⟨_, rfl, a⟩
  | _, _, i + 1, _, .cons a b, h => Dhs.get i b h
theorem Dhs.getD {H : Hp} : ∀ {vs : List V} {Ds : List PyData} (i : Nat) {D : PyData}, Dhs H vs Ds → Ds[i]? = some D → ∃ v, vs[i]? = some v ∧ Dh H v D
  | _, _, _, _, .nil, h => by cases h
  | _, _, 0, _, .cons a b, h => by cases Option.some.inj h; exact ⟨_, rfl, a⟩
  | _, _, i + 1, _, .cons a b, h => Dhs.getD i b h
theorem dhs_strs {H : Hp} : ∀ ss : List Str, Dhs H (ss.map V.str) (ss.map PyData.str)
  | [] => .nil
  | s :: ss => .cons (.str s) (dhs_strs ss)
theorem Dhs.strs {H : Hp} : ∀ {ss : List Str} {vs : List V}, Dhs H vs (ss.map PyData.str) → vs = ss.map V.str
  | [], _, h => by cases h; rfl
  | s :: ss, _, h => by
    cases h with
    | cons a b =>
      cases a
      rw [Dhs.strs b]; rfl
theorem dh_strs {H : Hp} {a : Addr} {ss : List Str} (h : LsS H a ss) : Dh H (.ref a) (.list (ss.map PyData.str)) := .lst h (dhs_strs ss)
def Env (σ : St) (H : Hp) (ρ : List (Nat × PyData)) : Prop := ∀ p ∈ ρ, ∃ v, σ[p.1]? = some (some v) ∧ Dh H v p.2
theorem Env.ext {σ : St} {H H' : Hp} {ρ : List (Nat × PyData)} (h : Env σ H ρ) (e : Ext H H') : Env σ H' ρ := fun p hp => by
  obtain ⟨v, h1, h2⟩ := h p hp
  exact ⟨v, h1, h2.ext e⟩
theorem env_nil {σ : St} {H : Hp} : Env σ H [] := fun p h => by cases h
theorem env_cons {σ : St} {H : Hp} {ρ : List (Nat × PyData)} {i : Nat} {D : PyData} {v : V} (h : σ[i]? = some (some v)) (d : Dh H v D) (r : Env σ H ρ) : Env σ H ((i, D) :: ρ) := fun p hp => by
  rcases List.mem_cons.mp hp with rfl | z
  · exact ⟨v, h, d⟩
  · exact r p z
def tD (ρ : List (Nat × PyData)) (D : PyData) : TE := fun σ H Q => Env σ H ρ ∧ ∀ v H', Ext H H' → Dh H' v D → Q v H'
def tDs (ρ : List (Nat × PyData)) (Ds : List PyData) : TA := fun σ H Q => Env σ H ρ ∧ ∀ vs H', Ext H H' → Dhs H' vs Ds → Q vs H'
section
variable {X : Cx} {ρ : List (Nat × PyData)} {D : PyData} {Ds As Bs : List PyData} {e a b : Expr} {es es' : List Expr} {p : Pos} {c j : Nat}
theorem pd_nm {i : Nat} (h : PE X e (tVar i)) (m : (i, D) ∈ ρ) : PEx X e (tD ρ D) := ⟨h.imp fun σ H Q ⟨en, q⟩ => by
  obtain ⟨v, h1, h2⟩ := en _ m
  exact ⟨v, h1, q v H (Ext.refl _) h2⟩⟩
theorem pd_str {x : Str} : PEx X (.Constant (.str x) j p) (tD ρ (.str x)) := ⟨pe_str.imp fun σ H Q ⟨_, q⟩ => q _ H (Ext.refl _) (.str x)⟩
theorem pd_int {x : Int} : PEx X (.Constant (.int x) j p) (tD ρ (.int x)) := ⟨pe_int.imp fun σ H Q ⟨_, q⟩ => q _ H (Ext.refl _) (.int x)⟩
theorem pd_non : PEx X (.Constant .none j p) (tD ρ .none) := ⟨pe_non.imp fun σ H Q ⟨_, q⟩ => q _ H (Ext.refl _) .non⟩
theorem pd_bl {x : Bool} : PEx X (.Constant (.bool x) j p) (tD ρ (.bool x)) := ⟨pe_bl.imp fun σ H Q ⟨_, q⟩ => q _ H (Ext.refl _) (.bl x)⟩
theorem ds_nil : PAx X [] (tDs ρ []) := ⟨pa_nil.imp fun σ H Q ⟨_, q⟩ => q _ H (Ext.refl _) .nil⟩
theorem ds_cons (ha : PEx X e (tD ρ D)) (hr : PAx X es (tDs ρ Ds)) (hs : starEach (e :: es) X.env = (false, eval e X.env) :: starEach es X.env) : PAx X (e :: es) (tDs ρ (D :: Ds)) := ⟨(pa_cons ha.h hr.h hs).imp fun σ H Q ⟨en, q⟩ =>
  ⟨en, fun v H1 e1 d1 => ⟨en.ext e1, fun vs H2 e2 d2 => q _ H2 (e1.trans e2) (.cons (d1.ext e2) d2)⟩⟩⟩
theorem ds_l (ha : PEx X (.List es' p) (tD ρ D)) (hr : PAx X es (tDs ρ Ds)) : PAx X (.List es' p :: es) (tDs ρ (D :: Ds)) := ds_cons ha hr rfl
theorem ds_t (ha : PEx X (.Tuple es' c p) (tD ρ D)) (hr : PAx X es (tDs ρ Ds)) : PAx X (.Tuple es' c p :: es) (tDs ρ (D :: Ds)) := ds_cons ha hr rfl
theorem ds_c {k : Const} (ha : PEx X (.Constant k j p) (tD ρ D)) (hr : PAx X es (tDs ρ Ds)) : PAx X (.Constant k j p :: es) (tDs ρ (D :: Ds)) := ds_cons ha hr rfl
theorem ds_n {x : Str} (ha : PEx X (.Name x p) (tD ρ D)) (hr : PAx X es (tDs ρ Ds)) : PAx X (.Name x p :: es) (tDs ρ (D :: Ds)) := ds_cons ha hr rfl
theorem ds_b {o : Operator} (ha : PEx X (.BinOp a o b p) (tD ρ D)) (hr : PAx X es (tDs ρ Ds)) : PAx X (.BinOp a o b p :: es) (tDs ρ (D :: Ds)) := ds_cons ha hr rfl
theorem ds_k {kw : List Keyword} (ha : PEx X (.Call a es' kw p) (tD ρ D)) (hr : PAx X es (tDs ρ Ds)) : PAx X (.Call a es' kw p :: es) (tDs ρ (D :: Ds)) := ds_cons ha hr rfl
theorem ds_s {x : Str} (hr : PAx X es (tDs ρ Ds)) : PAx X (.Constant (.str x) j p :: es) (tDs ρ (.str x :: Ds)) := ds_c pd_str hr
theorem pd_lst (h : PAx X es (tDs ρ Ds)) (hl : Ds.length ≤ 1000) : PEx X (.List es p) (tD ρ (.list Ds)) := ⟨(pe_lst h.h).imp fun σ H Q ⟨en, q⟩ =>
  ⟨en, fun vs H1 e1 d => ⟨by rw [d.len]; exact Nat.le_of_lt (small1000 hl), fun r hr => q _ _ (e1.trans (Ext.new hr _)) (.lst upd_same (d.ext (Ext.new hr _)))⟩⟩⟩
theorem pd_tup (h : PAx X es (tDs ρ Ds)) (hl : Ds.length ≤ 1000) : PEx X (.Tuple es c p) (tD ρ (.tuple Ds)) := ⟨(pe_tup h.h).imp fun σ H Q ⟨en, q⟩ =>
  ⟨en, fun vs H1 e1 d => ⟨by rw [d.len]; exact Nat.le_of_lt (small1000 hl), fun r hr => q _ _ (e1.trans (Ext.new hr _)) (.tup upd_same (d.ext (Ext.new hr _)))⟩⟩⟩
theorem pd_cat (ha : PEx X a (tD ρ (.list As))) (hb : PEx X b (tD ρ (.list Bs))) (hl : As.length + Bs.length ≤ 1000) : PEx X (.BinOp a .Add b p) (tD ρ (.list (As ++ Bs))) := ⟨(pe_op op_cat ha.h hb.h).imp fun σ H Q ⟨en, q⟩ =>
  ⟨en, fun v H1 e1 d1 => ⟨en.ext e1, fun u H2 e2 d2 => by
    cases d1 with
    | lst h1 g1 =>
      cases d2 with
      | lst h2 g2 =>
        exact ⟨_, _, _, _, rfl, rfl, e2 _ _ h1, h2, by rw [g1.len, g2.len]; exact Nat.le_of_lt (small1000 hl), fun r hr => q _ _ (e1.trans (e2.trans (Ext.new hr _))) (.lst upd_same (((g1.ext e2).app g2).ext (Ext.new hr _)))⟩⟩⟩⟩
end
end My
namespace My
open PySem L2
def itD : PyData → Prop
  | .none => True
  | .bool _ => True
  | .int _ => True
  | .str s => s.length ≤ 100 ∧ Sm s
  | .list Ds => ∃ ss : List Str, Ds = ss.map PyData.str ∧ SOk ss ∧ ss.length ≤ 20 ∧ ∀ s ∈ ss, s.length ≤ 100 ∧ Sm s
  | _ => False
def noRowD : PyData → Prop
  | .list Ds => Ds.length ≤ 100 ∧ (∀ D ∈ Ds, itD D) ∧ ((∃ D ∈ Ds, ∀ s, D = .str s → nameB s = false) ∨ ∃ i a b, Ds[i]? = some (.str a) ∧ Ds[i + 1]? = some (.str b) ∧ ¬ a.cps.toList < b.cps.toList)
  | _ => True
theorem item_of {H : Hp} {v : V} {D : PyData} (h : Dh H v D) (i : itD D) : Item H v D := by
  cases h with
  | non => exact .inl ⟨rfl, rfl⟩
  | bl b => exact .inr (.inl ⟨b, rfl, rfl⟩)
  | int k => exact .inr (.inr (.inl ⟨k, rfl, rfl⟩))
  | str s => exact .inr (.inr (.inr (.inl ⟨s, rfl, rfl, i.1, i.2⟩)))
  | lst h1 g =>
    obtain ⟨ss, rfl, i1, i2, i3⟩ := i
    cases g.strs
    exact .inr (.inr (.inr (.inr (.inl ⟨_, ss, rfl, rfl, h1, i1, i2, i3⟩))))
  | tup h1 g => exact i.elim
theorem getD_of {xs : List V} {i : Nat} {v : V} (h : xs[i]? = some v) : xs.getD i .non = v := by
  rw [List.getD_eq_getElem?_getD, h]; rfl
theorem noRow_of {H : Hp} {v : V} {D : PyData} (h : Dh H v D) (n : noRowD D) : NoRowV H v := by
  cases h with
  | non => exact ⟨none, .inr ⟨rfl, .inl rfl⟩, fun ⟨_, e, _⟩ => by cases e⟩
  | bl b => exact ⟨none, .inr ⟨rfl, .inr (.inl ⟨b, rfl⟩)⟩, fun ⟨_, e, _⟩ => by cases e⟩
  | int k => exact ⟨none, .inr ⟨rfl, .inr (.inr (.inl ⟨k, rfl⟩))⟩, fun ⟨_, e, _⟩ => by cases e⟩
  | str s => exact ⟨none, .inr ⟨rfl, .inr (.inr (.inr (.inl ⟨s, rfl⟩)))⟩, fun ⟨_, e, _⟩ => by cases e⟩
  | tup h1 g => exact ⟨none, .inr ⟨rfl, .inr (.inr (.inr (.inr ⟨_, _, rfl, h1⟩)))⟩, fun ⟨_, e, _⟩ => by cases e⟩
  | lst h1 g =>
    obtain ⟨n1, n2, n3⟩ := n
    refine ⟨some _, .inl ⟨_, _, rfl, rfl, h1, by rw [g.len]; exact n1, fun y hy => ?_⟩, ?_⟩
    · obtain ⟨i, hi⟩ := List.getElem?_of_mem hy
      obtain ⟨D, hD, d⟩ := g.get i hi
      exact ⟨D, item_of d (n2 D (List.mem_of_getElem? hD))⟩
    · rintro ⟨ys, e, rp⟩
      cases e
      rcases n3 with ⟨D, hD, hn⟩ | ⟨i, a, b, ha, hb, nl⟩
      · obtain ⟨i, hi⟩ := List.getElem?_of_mem hD
        obtain ⟨v, hv, d⟩ := g.getD i hi
        have := rp.1 i (List.getElem?_eq_some_iff.mp hv).1
        rw [getD_of hv] at this
        obtain ⟨s, rfl⟩ := nmV_str this
        cases d
        rw [show nmV (.str s) = nameB s from rfl, hn s rfl] at this
        cases this
      · obtain ⟨v, hv, d⟩ := g.getD i ha
        obtain ⟨u, hu, d'⟩ := g.getD (i + 1) hb
        have := rp.2 i (List.getElem?_eq_some_iff.mp hu).1
        rw [getD_of hv, getD_of hu] at this
        cases d
        cases d'
        exact nl (of_decide_eq_true this)
def nsD : PyData → Prop
  | .tuple Ds => Ds = [] ∨ ∃ D0 r, Ds = D0 :: r ∧ r.length ≤ 90 ∧ SeqAt.shaped D0 = true ∧ (D0 = .str "turn" → ∀ y, r = [y] → noRowD y) ∧ (D0 = .str "apart" → ∀ a b c, r = [a, b, c] → noRowD b) ∧ (D0 = .str "together" → ∀ a b, r = [a, b] → ∃ ls, a = .list ls)
  | .bool _ => False
  | _ => True
theorem stepN_of {K : PySem.W.Frag} {H : Hp} {v : V} {D : PyData} (h : Dh H v D) (n : nsD D) : StepN K H v := by
  cases h with
  | non => exact .inl (.inl rfl)
  | bl b => exact n.elim
  | int k => exact .inl (.inr (.inl ⟨k, rfl⟩))
  | str s => exact .inl (.inr (.inr (.inl ⟨s, rfl⟩)))
  | lst h1 g => exact .inl (.inr (.inr (.inr ⟨_, _, rfl, h1⟩)))
  | tup h1 g =>
    rcases n with rfl | ⟨D0, r, rfl, l, sh, n1, n2, n3⟩
    · cases g
      exact .inr ⟨_, _, rfl, h1, Nat.zero_le _, .inl rfl⟩
    · cases g with
      | cons d0 dr =>
        refine .inr ⟨_, _, rfl, h1, by rw [List.length_cons, dr.len]; omega, .inr ⟨_, _, D0, rfl, d0.dr, sh, fun e y1 er => ?_, fun e y1 y2 y3 er => ?_, fun e y1 y2 er => ?_⟩⟩
        · subst er
          cases dr with
          | cons d1 d2 =>
            cases d2
            exact noRow_of d1 (n1 e _ rfl)
        · subst er
          cases dr with
          | cons d1 d2 =>
            cases d2 with
            | cons d2 d3 =>
              cases d3 with
              | cons d3 d4 =>
                cases d4
                exact noRow_of d2 (n2 e _ _ _ rfl)
        · subst er
          cases dr with
          | cons d1 d2 =>
            cases d2 with
            | cons d2 d3 =>
              cases d3
              obtain ⟨ls, rfl⟩ := n3 e _ _ rfl
              cases d1 with
              | lst h9 g9 => exact ⟨_, _, rfl, h9⟩
theorem rb_str {s : Str} {n : Nat} (h : Sm s) (l : s.length ≤ n) : Rb n (.str s) := by
  refine ⟨rfl, rfl, ?_, l⟩
  show (s.cps.toList.all fun c => decide (c < 16 ^ 8)) = true
  rw [List.all_eq_true]
  intro c hc
  exact decide_eq_true (Nat.lt_trans (h c hc) (by decide))
theorem depthA_le {n : Nat} : ∀ {ds : List PyData}, (∀ d ∈ ds, d.depth ≤ n) → PyData.depthAll ds ≤ n
  | [], _ => Nat.zero_le _
  | d :: ds, h => Nat.max_le.mpr ⟨h d List.mem_cons_self, depthA_le fun x hx => h x (List.mem_cons_of_mem _ hx)⟩
def SmD (n k : Nat) (D : PyData) : Prop := Rb n D ∧ D.depth ≤ k
theorem SmD.lst {m n k : Nat} {Ds : List PyData} (h : ∀ d ∈ Ds, SmD m k d) (l : (m + 1) * Ds.length ≤ n) : SmD n (k + 1) (.list Ds) :=
  ⟨((RbA.all fun d hd => (h d hd).1).lst).mono l, Nat.succ_le_succ (depthA_le fun d hd => (h d hd).2)⟩
theorem SmD.tup {m n k : Nat} {Ds : List PyData} (h : ∀ d ∈ Ds, SmD m k d) (l : (m + 1) * Ds.length ≤ n) : SmD n (k + 1) (.tuple Ds) :=
  ⟨((RbA.all fun d hd => (h d hd).1).tup).mono l, Nat.succ_le_succ (depthA_le fun d hd => (h d hd).2)⟩
theorem SmD.mono {m n j k : Nat} {D : PyData} (h : SmD m j D) (a : m ≤ n) (b : j ≤ k) : SmD n k D := ⟨h.1.mono a, Nat.le_trans h.2 b⟩
theorem sm_str {s : Str} {n k : Nat} (h : Sm s) (l : s.length ≤ n) : SmD n k (.str s) := ⟨rb_str h l, Nat.zero_le _⟩
theorem sm_non {n k : Nat} : SmD n k .none := ⟨⟨rfl, rfl, rfl, Nat.zero_le _⟩, Nat.zero_le _⟩
theorem sm_bl {n k : Nat} {b : Bool} : SmD n k (.bool b) := ⟨⟨rfl, rfl, rfl, Nat.zero_le _⟩, Nat.zero_le _⟩
def smB (s : Str) : Bool := s.cps.toList.all fun c => decide (c < 128)
theorem sm_of {s : Str} (h : smB s = true) : Sm s := fun c hc => of_decide_eq_true (List.all_eq_true.mp h c hc)
structure Tis (ss : List Str) (last : Str) : Prop where
  l : ss.length ≤ 12
  nm : ∀ s ∈ ss, Named s
  rs : Rise ss
  la : ∃ r, ss = r ++ [last]
theorem Tis.sms {ss : List Str} {last : Str} (t : Tis ss last) : ∀ d ∈ ss.map PyData.str, SmD 7 0 d := fun d hd => by
  obtain ⟨s, hs, rfl⟩ := List.mem_map.mp hd
  exact sm_str (t.nm s hs).1.sm (Nat.le_succ_of_le (t.nm s hs).2.2)
theorem Tis.its {ss : List Str} {last : Str} (t : Tis ss last) : ∀ d ∈ ss.map PyData.str, itD d := fun d hd => by
  obtain ⟨s, hs, rfl⟩ := List.mem_map.mp hd
  exact ⟨by have := (t.nm s hs).2.2; omega, (t.nm s hs).1.sm⟩
theorem Tis.lm {ss : List Str} {last : Str} (t : Tis ss last) : last ∈ ss := by
  obtain ⟨r, e⟩ := t.la
  rw [e]; simp
theorem snoc_all {P : PyData → Prop} {Ds : List PyData} {d : PyData} (h : ∀ x ∈ Ds, P x) (h' : P d) : ∀ x ∈ Ds ++ [d], P x := fun x hx => by
  rcases List.mem_append.mp hx with z | z
  · exact h x z
  · rw [List.mem_singleton] at z
    rw [z]; exact h'
def OddD (D : PyData) : Prop := noRowD D ∧ SmD 120 3 D
theorem Tis.not_after {ss : List Str} {last x : Str} (t : Tis ss last) (h : x ∈ ss) : ¬ last.cps.toList < x.cps.toList := by
  obtain ⟨r, e⟩ := t.la
  intro lt
  have lt' : sLtB last x = true := decide_eq_true lt
  have rs := t.rs
  rw [e] at rs h
  rcases List.mem_append.mp h with z | z
  · have := (List.pairwise_append.mp rs).2.2 x z last (by simp)
    have q := sLtB_trans lt' this
    rw [sLtB_irr] at q; cases q
  · rw [List.mem_singleton] at z
    rw [z, sLtB_irr] at lt'; cases lt'
theorem odd_snoc {ss : List Str} {last : Str} {d : PyData} (t : Tis ss last) (s : SmD 7 0 d) (i : itD d) (no : ∀ s, d = .str s → nameB s = false) : OddD (.list (ss.map PyData.str ++ [d])) := by
  have l := t.l
  refine ⟨⟨by rw [List.length_append, List.length_map, List.length_singleton]; omega, snoc_all t.its i, .inl ⟨d, by simp, no⟩⟩, (SmD.lst (m := 7) (k := 0) (n := 120) (snoc_all t.sms s) ?_).mono (Nat.le_refl _) (by decide)⟩
  rw [List.length_append, List.length_map, List.length_singleton]; omega
theorem odd_last {ss : List Str} {last : Str} (t : Tis ss last) : OddD (.list (ss.map PyData.str ++ [.str last])) := by
  have l := t.l
  have nl := t.nm last t.lm
  refine ⟨⟨by rw [List.length_append, List.length_map, List.length_singleton]; omega, snoc_all t.its ⟨by have := nl.2.2; omega, nl.1.sm⟩, .inr ?_⟩, (SmD.lst (m := 7) (k := 0) (n := 120) (snoc_all t.sms (sm_str nl.1.sm (Nat.le_succ_of_le nl.2.2))) ?_).mono (Nat.le_refl _) (by decide)⟩
  · obtain ⟨r, e⟩ := t.la
    refine ⟨r.length, last, last, ?_, ?_, t.not_after t.lm⟩
    · rw [e, List.map_append, List.append_assoc, List.getElem?_append_right (by simp)]; simp
    · rw [e, List.map_append, List.append_assoc, List.getElem?_append_right (by simp)]; simp
  · rw [List.length_append, List.length_map, List.length_singleton]; omega
theorem odd_rev {ss : List Str} {last : Str} (t : Tis ss last) : OddD (.list ((ss.map PyData.str).reverse ++ [.str last])) := by
  have l := t.l
  have nl := t.nm last t.lm
  refine ⟨⟨by rw [List.length_append, List.length_reverse, List.length_map, List.length_singleton]; omega, snoc_all (fun x hx => t.its x (List.mem_reverse.mp hx)) ⟨by have := nl.2.2; omega, nl.1.sm⟩, .inr ?_⟩, (SmD.lst (m := 7) (k := 0) (n := 120) (snoc_all (fun x hx => t.sms x (List.mem_reverse.mp hx)) (sm_str nl.1.sm (Nat.le_succ_of_le nl.2.2))) ?_).mono (Nat.le_refl _) (by decide)⟩
  · obtain ⟨r, e⟩ := t.la
    have e2 : (ss.map PyData.str).reverse ++ [PyData.str last] = .str last :: ((r.reverse ++ [last]).map PyData.str) := by
      rw [e]; simp
    rw [e2]
    obtain ⟨b, b', eb⟩ : ∃ b b', r.reverse ++ [last] = b :: b' := by
      cases hr : r.reverse with
      | nil => exact ⟨last, [], rfl⟩
      | cons x y => exact ⟨x, y ++ [last], rfl⟩
    refine ⟨0, last, b, rfl, by rw [eb]; rfl, t.not_after ?_⟩
    have : b ∈ r.reverse ++ [last] := by rw [eb]; exact List.mem_cons_self
    rw [e]
    rcases List.mem_append.mp this with z | z
    · exact List.mem_append_left _ (List.mem_reverse.mp z)
    · exact List.mem_append_right _ z
  · rw [List.length_append, List.length_reverse, List.length_map, List.length_singleton]; omega
theorem join_sm : ∀ ss : List Str, (∀ s ∈ ss, Sm s ∧ s.length ≤ 6) → Sm (Str.join "" ss) ∧ (Str.join "" ss).length ≤ 6 * ss.length
  | [], _ => ⟨fun c h => (by cases h), Nat.zero_le _⟩
  | [x], h => ⟨(h x (by simp)).1, (h x (by simp)).2⟩
  | x :: y :: r, h => by
    obtain ⟨h1, h2⟩ := join_sm (y :: r) fun s hs => h s (List.mem_cons_of_mem _ hs)
    have hx := h x List.mem_cons_self
    have e : Str.join "" (x :: y :: r) = x ++ "" ++ Str.join "" (y :: r) := rfl
    rw [e]
    refine ⟨fun c hc => ?_, ?_⟩
    · rw [Str.cps_append, Str.cps_append, Array.toList_append, Array.toList_append] at hc
      rcases List.mem_append.mp hc with z | z
      · rcases List.mem_append.mp z with z | z
        · exact hx.1 c z
        · cases z
      · exact h1 c z
    · rw [Str.length_append, Str.length_append]
      have z : ("" : Str).length = 0 := by decide
      have := hx.2
      rw [List.length_cons] at h2 ⊢
      rw [List.length_cons]
      omega
def oddA (ss : List Str) (last : Str) : List PyData := [.tuple (ss.map PyData.str), .str (Txt.join "" ss), .none, .list ((ss.map PyData.str).reverse ++ [.str last]), .list (ss.map PyData.str ++ [.str last]), .list (ss.map PyData.str ++ [.str ""]), .list (ss.map PyData.str ++ [.none])]
def oddB (ss : List Str) : List PyData := [.list [.list (ss.map PyData.str)], .list (ss.map PyData.str ++ [.int 3]), .bool true, .list [.list []], .list (ss.map PyData.str ++ [.str "AA"]), .list (ss.map PyData.str ++ [.str "abcdefg"])]
theorem smD_int3 {n k : Nat} : SmD n k (.int 3) := ⟨⟨by decide +kernel, rfl, by decide +kernel, Nat.zero_le _⟩, Nat.zero_le _⟩
theorem odd_all {ss : List Str} {last : Str} (t : Tis ss last) : ∀ D ∈ oddA ss last ++ oddB ss, OddD D := by
  have l := t.l
  intro D hD
  rcases List.mem_append.mp hD with h | h
  · simp only [oddA, List.mem_cons, List.not_mem_nil, or_false] at h
    rcases h with rfl | rfl | rfl | rfl | rfl | rfl | rfl
    · exact ⟨trivial, (SmD.tup (m := 7) (k := 0) (n := 120) t.sms (by rw [List.length_map]; omega)).mono (Nat.le_refl _) (by decide)⟩
    · have e : Txt.join "" ss = Str.join "" ss := StrLaws.glued_eq_join _ _
      obtain ⟨j1, j2⟩ := join_sm ss fun s hs => ⟨(t.nm s hs).1.sm, (t.nm s hs).2.2⟩
      exact ⟨trivial, sm_str (by rw [e]; exact j1) (by rw [e]; omega)⟩
    · exact ⟨trivial, sm_non⟩
    · exact odd_rev t
    · exact odd_last t
    · exact odd_snoc t (sm_str (sm_of (by decide +kernel)) (by decide +kernel)) ⟨by decide +kernel, sm_of (by decide +kernel)⟩ (fun s e => by cases e; decide +kernel)
    · exact odd_snoc t sm_non trivial (fun s e => by cases e)
  · simp only [oddB, List.mem_cons, List.not_mem_nil, or_false] at h
    rcases h with rfl | rfl | rfl | rfl | rfl | rfl
    · refine ⟨⟨by show 1 ≤ 100; decide, fun d hd => ?_, .inl ⟨_, List.mem_cons_self, fun s e => by cases e⟩⟩, (SmD.lst (m := 110) (k := 1) (n := 120) (fun d hd => ?_) (by show 111 * 1 ≤ 120; decide)).mono (Nat.le_refl _) (by decide)⟩
      · rw [List.mem_singleton] at hd
        subst hd
        exact ⟨ss, rfl, fun s hs => (t.nm s hs).1.sm.ok, by omega, fun s hs => ⟨by have := (t.nm s hs).2.2; omega, (t.nm s hs).1.sm⟩⟩
      · rw [List.mem_singleton] at hd
        subst hd
        exact SmD.lst (m := 7) (k := 0) t.sms (by rw [List.length_map]; omega)
    · exact odd_snoc t smD_int3 trivial (fun s e => by cases e)
    · exact ⟨trivial, sm_bl⟩
    · refine ⟨⟨by show 1 ≤ 100; decide, fun d hd => ?_, .inl ⟨_, List.mem_cons_self, fun s e => by cases e⟩⟩, (SmD.lst (m := 110) (k := 1) (n := 120) (fun d hd => ?_) (by show 111 * 1 ≤ 120; decide)).mono (Nat.le_refl _) (by decide)⟩
      · rw [List.mem_singleton] at hd
        subst hd
        exact ⟨[], rfl, fun s hs => (by cases hs), by decide, fun s hs => (by cases hs)⟩
      · rw [List.mem_singleton] at hd
        subst hd
        exact SmD.lst (m := 7) (k := 0) (fun d hd => by cases hd) (by decide)
    · exact odd_snoc t (sm_str (sm_of (by decide +kernel)) (by decide +kernel)) ⟨by decide +kernel, sm_of (by decide +kernel)⟩ (fun s e => by cases e; decide +kernel)
    · exact odd_snoc t (sm_str (sm_of (by decide +kernel)) (by decide +kernel)) ⟨by decide +kernel, sm_of (by decide +kernel)⟩ (fun s e => by cases e; decide +kernel)
end My
namespace My
open PySem L2
section
variable {X : Cx} {ρ : List (Nat × PyData)} {Ds : List PyData} {e : Expr}
theorem pe_of {t : TE} (h : PEx X e t) : PE X e t := h.h
theorem pd_imp (D : PyData) {te : TE} (h : PE X e te) (i : ∀ σ H Q, Env σ H ρ → (∀ v H', Ext H H' → Dh H' v D → Q v H') → te σ H Q) : PEx X e (tD ρ D) := ⟨h.imp fun σ H Q ⟨a, b⟩ => i σ H Q a b⟩
theorem pd_rev {i : Nat} {st : Expr} {ts : TE} {q1 q2 : Pos} (h : PE X e (tVar i)) (hs : PE X st ts) (hw : ∀ σ H Q, Q (.int (-1)) H → ts σ H Q) (m : (i, PyData.list Ds) ∈ ρ) : PEx X (.Subscript e (.Slice none none (some st) q2) q1) (tD ρ (.list Ds.reverse)) :=
  pd_imp _ (pe_rev h hs) fun σ H Q en q => by
    obtain ⟨v, h1, h2⟩ := en _ m
    cases h2 with
    | lst g1 g2 => exact ⟨_, h1, hw _ _ _ ⟨_, _, rfl, rfl, SqL.of g1, fun r hr => q _ _ (Ext.new hr _) (.lst upd_same (g2.rev.ext (Ext.new hr _)))⟩⟩
end
theorem dh_at {H : Hp} {vs : List V} {Ds : List PyData} (g : Dhs H vs Ds) {i : Int} (h0 : 0 ≤ i) (h1 : i < (Ds.length : Int)) : ∃ v D, atI vs i = some v ∧ D ∈ Ds ∧ Dh H v D := by
  obtain ⟨k, rfl⟩ : ∃ k : Nat, i = (k : Int) := ⟨i.toNat, (Int.toNat_of_nonneg h0).symm⟩
  have hk : k < Ds.length := by omega
  obtain ⟨v, hv, d⟩ := g.getD k (List.getElem?_eq_getElem hk)
  exact ⟨v, _, atI_nat hv, List.getElem_mem hk, d⟩
theorem at_last {ss r : List Str} {last : Str} (e : ss = r ++ [last]) : atI (ss.map V.str) (-1) = some (.str last) := by
  have l : (ss.map V.str).length = r.length + 1 := by rw [e]; simp
  unfold atI
  have : ixN (ss.map V.str).length (-1) = some r.length := by
    unfold ixN
    rw [l, if_neg (by decide), if_pos (by omega)]
    congr 1
    omega
  rw [this]
  show (ss.map V.str)[r.length]? = _
  rw [e, List.map_append, List.getElem?_append_right (by simp)]; simp
theorem sum6 : ∀ ss : List Str, (∀ s ∈ ss, Named s) → (ss.map (·.length)).sum ≤ 6 * ss.length
  | [], _ => Nat.zero_le _
  | x :: r, nm => by
    have h1 := sum6 r fun s hs => nm s (List.mem_cons_of_mem _ hs)
    have h2 := (nm x List.mem_cons_self).2.2
    rw [List.map_cons, List.sum_cons, List.length_cons]
    omega
def spOddT : Sp := fun vs H Q _ => ∃ (tp : Addr) (ss : List Str) (last : Str) (k : Int), vs = [.ref tp, .int k] ∧ LsS H tp ss ∧ Tis ss last ∧ ∀ v D H', Ext H H' → Dh H' v D → OddD D → Q v H'
abbrev otN : List Str := ["_law_ties", "_law_kind", "_law_last", "_law_odd"]
section
variable {P : Program} {w : World} {K : PySem.W.Frag} {mg : Str → Option Value} {base : Heap} {f f1 f2 f3 : Addr} {fd fd1 fd2 fd3 : FuncData}
theorem scOddT : FnScope otN ["_law_ties", "_law_kind"] (defScope sOddT) := ⟨rfl, rfl, rfl, by decide +kernel, rfl, by decide +kernel, by decide +kernel⟩
set_option maxHeartbeats 4000000 in
theorem ok_oddt (F : Fun K "_law_odd_ties" "_law_odd_ties" sOddT f fd) (mtu : mg "tuple" = none) : FnOk P w K mg base CX0 1 f fd ["_law_ties", "_law_kind"] spOddT := by
  refine F.ok scOddT (fun vs H Q E h => ?_) (fun cdv A outer s H vs Q E hr h => ?_)
  · obtain ⟨tp, ss, last, k, rfl, _⟩ := h
    rfl
  obtain ⟨tp, ss, last, k, rfl, hs, ts, q⟩ := h
  have l := ts.l
  have m0 : (0, PyData.list (ss.map PyData.str)) ∈ [(0, PyData.list (ss.map PyData.str)), (2, PyData.str last)] := by simp
  have m2 : (2, PyData.str last) ∈ [(0, PyData.list (ss.map PyData.str)), (2, PyData.str last)] := by simp
  have n0 : (0, PyData.list (ss.map PyData.str)) ∈ [(0, PyData.list (ss.map PyData.str)), (2, PyData.str last), (3, PyData.list (oddA ss last))] := by simp
  have n3 : (3, PyData.list (oddA ss last)) ∈ [(0, PyData.list (ss.map PyData.str)), (2, PyData.str last), (3, PyData.list (oddA ss last))] := by simp
  refine ⟨_, pss_cons (ps_set (i := 2) scOddT.nd rfl (Or.inl rfl) (pe_ix ix_list (pv 0) (pe_un un_neg pe_int) (fun _ _ => rfl)))
    (pss_cons (ps_set (i := 3) scOddT.nd rfl (Or.inl rfl) (pe_of (pd_lst
      (ds_k (pd_imp (.tuple (ss.map PyData.str)) (pe_callTy call_tuple_of rfl mtu boot_tuple' (pa_cons (pv 0) pa_nil)) (fun σ H Q en q => ?tup))
      (ds_k (pd_imp (.str (Txt.join "" ss)) (pe_bm PySem.F.plainAttrs_str PySem.F.slot_str_join PySem.F.type_str_join mt_join pe_str (pa_cons (pv 0) pa_nil)) (fun σ H Q en q => ?join))
      (ds_c pd_non
      (ds_b (pd_cat (pd_rev (pv 0) (pe_un un_neg pe_int) (fun σ H Q q => ⟨1, rfl, q⟩) m0) (pd_lst (ds_n (pd_nm (pv 2) m2) ds_nil) (by show 1 ≤ 1000; decide)) (by simp only [List.length_reverse, List.length_map, List.length_cons, List.length_nil]; omega))
      (ds_b (pd_cat (pd_nm (pv 0) m0) (pd_lst (ds_n (pd_nm (pv 2) m2) ds_nil) (by show 1 ≤ 1000; decide)) (by simp only [List.length_map, List.length_cons, List.length_nil]; omega))
      (ds_b (pd_cat (pd_nm (pv 0) m0) (pd_lst (ds_s ds_nil) (by show 1 ≤ 1000; decide)) (by simp only [List.length_map, List.length_cons, List.length_nil]; omega))
      (ds_b (pd_cat (pd_nm (pv 0) m0) (pd_lst (ds_c pd_non ds_nil) (by show 1 ≤ 1000; decide)) (by simp only [List.length_map, List.length_cons, List.length_nil]; omega))
      ds_nil))))))) (by show 7 ≤ 1000; decide))))
    (pss_one (ps_ret (pe_ix ix_list (pe_of (pd_cat (pd_nm (pv 3) n3) (pd_lst
      (ds_l (pd_lst (ds_n (pd_nm (pv 0) n0) ds_nil) (by show 1 ≤ 1000; decide))
      (ds_b (pd_cat (pd_nm (pv 0) n0) (pd_lst (ds_c pd_int ds_nil) (by show 1 ≤ 1000; decide)) (by simp only [List.length_map, List.length_cons, List.length_nil]; omega))
      (ds_c pd_bl
      (ds_l (pd_lst (ds_l (pd_lst ds_nil (by show 0 ≤ 1000; decide)) ds_nil) (by show 1 ≤ 1000; decide))
      (ds_b (pd_cat (pd_nm (pv 0) n0) (pd_lst (ds_s ds_nil) (by show 1 ≤ 1000; decide)) (by simp only [List.length_map, List.length_cons, List.length_nil]; omega))
      (ds_b (pd_cat (pd_nm (pv 0) n0) (pd_lst (ds_s ds_nil) (by show 1 ≤ 1000; decide)) (by simp only [List.length_map, List.length_cons, List.length_nil]; omega))
      ds_nil)))))) (by show 6 ≤ 1000; decide)) (by show 7 + 6 ≤ 1000; decide))) (pe_op op_mod (pv 1) pe_int) (fun _ _ => rfl))))), ?_⟩
  try dsimp only [Cx.wish, cxOf]
  case tup =>
    obtain ⟨v, h1, h2⟩ := en _ m0
    cases h2 with
    | lst g1 g2 => exact ⟨_, h1, _, _, rfl, .inl ⟨SqL.of g1, fun l hl => q _ _ (Ext.new hl _) (.tup upd_same (g2.ext (Ext.new hl _)))⟩⟩
  case join =>
    obtain ⟨v, h1, h2⟩ := en _ m0
    cases h2 with
    | lst g1 g2 =>
      cases g2.strs
      refine ⟨rfl, _, h1, _, ss, _, rfl, rfl, g1, ?_, q _ _ (Ext.refl _) (.str _)⟩
      have := sum6 ss ts.nm
      have z : ("" : Str).length = 0 := by decide
      rw [z]
      omega
  obtain ⟨r, er⟩ := ts.la
  refine ⟨_, rfl, _, rfl, tp, _, _, _, rfl, rfl, SqL.of hs, at_last er, ?_⟩
  refine ⟨env_cons (v := .ref tp) rfl (dh_strs hs) (env_cons (v := .str last) rfl (.str last) env_nil), fun v1 H1 e1 d1 => ?_⟩
  refine ⟨env_cons (v := .ref tp) rfl (dh_strs (e1 _ _ hs)) (env_cons (v := .str last) rfl (.str last) (env_cons (v := v1) rfl d1 env_nil)), fun v2 H2 e2 d2 => ?_⟩
  refine ⟨_, rfl, _, _, rfl, rfl, (by show (0 : Int) < _; decide), ?_⟩
  cases d2 with
  | lst g1 g2 =>
    obtain ⟨k0, k1⟩ := emod_of k (show (0 : Int) < 13 by decide)
    obtain ⟨u, D, ua, um, ud⟩ := dh_at g2 (i := k % 13) k0 k1
    exact ⟨_, _, _, _, rfl, rfl, SqL.of g1, ua, q u D H2 (e1.trans e2) ud (odd_all ts D um)⟩
end
end My
namespace My
open PySem L2
theorem sm0 {n k : Nat} : ∀ x ∈ ([] : List PyData), SmD n k x := fun x h => by cases h
theorem smc {n k : Nat} {d : PyData} {ds : List PyData} (h : SmD n k d) (t : ∀ x ∈ ds, SmD n k x) : ∀ x ∈ d :: ds, SmD n k x := fun x hx => by
  rcases List.mem_cons.mp hx with rfl | z
  · exact h
  · exact t x z
def GoodD (D : PyData) : Prop := nsD D ∧ SmD 900 8 D
theorem sTurn : ¬ ("turn" : Str) = "apart" ∧ ¬ ("turn" : Str) = "together" ∧ ¬ ("apart" : Str) = "turn" ∧ ¬ ("apart" : Str) = "together" ∧ ¬ ("together" : Str) = "turn" ∧ ¬ ("together" : Str) = "apart" := by
  refine ⟨?_, ?_, ?_, ?_, ?_, ?_⟩ <;> decide +kernel
theorem ns_turn {r : List PyData} (l : r.length ≤ 90) (h : ∀ y, r = [y] → noRowD y) : nsD (.tuple (.str "turn" :: r)) :=
  .inr ⟨_, r, rfl, l, shaped_str' (by decide +kernel), fun _ => h, fun e => absurd (PyData.str.inj e) sTurn.1, fun e => absurd (PyData.str.inj e) sTurn.2.1⟩
theorem ns_apart {r : List PyData} (l : r.length ≤ 90) (h : ∀ a b c, r = [a, b, c] → noRowD b) : nsD (.tuple (.str "apart" :: r)) :=
  .inr ⟨_, r, rfl, l, shaped_str' (by decide +kernel), fun e => absurd (PyData.str.inj e) sTurn.2.2.1, fun _ => h, fun e => absurd (PyData.str.inj e) sTurn.2.2.2.1⟩
theorem ns_tog {r : List PyData} (l : r.length ≤ 90) (h : ∀ a b, r = [a, b] → ∃ ls, a = .list ls) : nsD (.tuple (.str "together" :: r)) :=
  .inr ⟨_, r, rfl, l, shaped_str' (by decide +kernel), fun e => absurd (PyData.str.inj e) sTurn.2.2.2.2.1, fun e => absurd (PyData.str.inj e) sTurn.2.2.2.2.2, fun _ => h⟩
theorem ns_any {D0 : PyData} {a b : List PyData} (s : SeqAt.shaped D0 = true) : nsD (.tuple [D0, .list a, .list b]) :=
  .inr ⟨_, _, rfl, by show 2 ≤ 90; decide, s, fun _ y e => (by cases e), fun _ _ _ _ e => (by cases e), fun _ x y e => (by cases e; exact ⟨_, rfl⟩)⟩
theorem ns_else {D0 : PyData} {r : List PyData} (l : r.length ≤ 90) (s : SeqAt.shaped D0 = true) (n : ∀ z, ¬ D0 = .str z) : nsD (.tuple (D0 :: r)) :=
  .inr ⟨_, _, rfl, l, s, fun e => absurd e (n _), fun e => absurd e (n _), fun e => absurd e (n _)⟩
abbrev tD' (ss : List Str) : PyData := .list (ss.map PyData.str)
def wholeD : List PyData := [.str "turn", .str "apart", .str "together", .str "", .str "Turn", .str "take", .none, .int 0, .bool true, .list [.str "turn"]]
theorem smD_int0 {n k : Nat} : SmD n k (.int 0) := ⟨⟨by decide +kernel, rfl, by decide +kernel, Nat.zero_le _⟩, Nat.zero_le _⟩
theorem smD_int7 {n k : Nat} : SmD n k (.int 7) := ⟨⟨by decide +kernel, rfl, by decide +kernel, Nat.zero_le _⟩, Nat.zero_le _⟩
theorem smS {s : Str} {n k : Nat} (h : smB s = true) (l : decide (s.length ≤ 8) = true) : SmD (n + 8) k (.str s) := sm_str (sm_of h) (Nat.le_trans (of_decide_eq_true l) (Nat.le_add_left _ _))
theorem whole_ok : ∀ D ∈ wholeD, SeqAt.shaped D = true ∧ SmD 101 2 D := by
  intro D h
  simp only [wholeD, List.mem_cons, List.not_mem_nil, or_false] at h
  rcases h with rfl | rfl | rfl | rfl | rfl | rfl | rfl | rfl | rfl | rfl
  · exact ⟨by decide +kernel, smS (by decide +kernel) (by decide +kernel)⟩
  · exact ⟨by decide +kernel, smS (by decide +kernel) (by decide +kernel)⟩
  · exact ⟨by decide +kernel, smS (by decide +kernel) (by decide +kernel)⟩
  · exact ⟨by decide +kernel, smS (by decide +kernel) (by decide +kernel)⟩
  · exact ⟨by decide +kernel, smS (by decide +kernel) (by decide +kernel)⟩
  · exact ⟨by decide +kernel, smS (by decide +kernel) (by decide +kernel)⟩
  · exact ⟨by decide +kernel, sm_non⟩
  · exact ⟨by decide +kernel, smD_int0⟩
  · exact ⟨by decide +kernel, sm_bl⟩
  · exact ⟨by decide +kernel, (SmD.lst (m := 8) (k := 0) (n := 101) (smc (smS (n := 0) (by decide +kernel) (by decide +kernel)) sm0) (by show 9 * 1 ≤ 101; decide)).mono (Nat.le_refl _) (by decide)⟩
def thA (ss : List Str) (pt : Str) : List PyData := [.none, .int 7, .str "turn", .str "", .list [], .tuple [], .list [.str "turn", tD' ss], .tuple [.str "turn"], .tuple [.str "turn", tD' ss, tD' ss], .tuple [.str "apart", .str pt, tD' ss]]
def thB (ss : List Str) (pt : Str) : List PyData := [.tuple [.str "apart", .str pt, tD' ss, .str "zz", .str "zz"], .tuple [.str "together", .str pt], .tuple [.str "together", .str pt, .str pt, .str pt]]
def thC (ss : List Str) (pt : Str) (W : PyData) : List PyData := [.tuple [W, .list [tD' ss], .list [tD' ss]], .tuple [tD' ss, .str "turn"], .list [.tuple [.str "turn", tD' ss]], .tuple [.str "turn", .str pt]]
def thE (ss : List Str) (pt : Str) : List PyData := [.tuple [.str "apart", tD' ss, .str pt, .str "zz"]]
def thF (ss : List Str) (pt : Str) : List PyData := [.tuple [.str "together", .list [.str pt], .str pt], .tuple [.str "together", tD' ss, tD' ss], .tuple [.tuple [.str "turn", tD' ss]]]
section
variable {ss : List Str} {last pt : Str} {W : PyData}
theorem Tis.smT (t : Tis ss last) : SmD 100 1 (tD' ss) := SmD.lst (m := 7) (k := 0) t.sms (by have := t.l; rw [List.length_map]; omega)
theorem Tis.shT (t : Tis ss last) : SeqAt.shaped (tD' ss) = true := shaped_row fun s hs => (t.nm s hs).1.sm.ok
theorem sm_pt {n k : Nat} (h : Named pt) : SmD (n + 8) k (.str pt) := sm_str h.1.sm (by have := h.2.2; omega)
abbrev cT {n k : Nat} : SmD (n + 8) k (.str "turn") := smS (by decide +kernel) (by decide +kernel)
abbrev cA {n k : Nat} : SmD (n + 8) k (.str "apart") := smS (by decide +kernel) (by decide +kernel)
abbrev cG {n k : Nat} : SmD (n + 8) k (.str "together") := smS (by decide +kernel) (by decide +kernel)
abbrev cZ {n k : Nat} : SmD (n + 8) k (.str "zz") := smS (by decide +kernel) (by decide +kernel)
theorem gt {Ds : List PyData} (h : ∀ d ∈ Ds, SmD 100 1 d) (l : Ds.length ≤ 8) : SmD 900 8 (.tuple Ds) := (SmD.tup (m := 100) (k := 1) (n := 900) h (by omega)).mono (Nat.le_refl _) (by decide)
theorem gl {Ds : List PyData} (h : ∀ d ∈ Ds, SmD 100 1 d) (l : Ds.length ≤ 8) : SmD 900 8 (.list Ds) := (SmD.lst (m := 100) (k := 1) (n := 900) h (by omega)).mono (Nat.le_refl _) (by decide)
theorem shaped_in (t : Tis ss last) : SeqAt.shaped (.tuple [.str "turn", tD' ss]) = true := by
  obtain ⟨h3, h4⟩ := lay_strs (r := ss) fun s hs => (t.nm s hs).1.sm.ok
  have z : PyData.strOk "turn" = true := by decide +kernel
  show ((PyData.strOk "turn" && (PyData.canLayAll0 (ss.map .str) && true)) && decide (max 0 (max (PyData.depthAll (ss.map .str) + 1) 0) + 1 ≤ 64)) = true
  rw [h3, h4, z]; rfl
theorem good_tt (t : Tis ss last) : SmD 203 2 (.tuple [.str "turn", tD' ss]) := SmD.tup (m := 100) (k := 1) (smc (cT (n := 92)) (smc t.smT sm0)) (by show 101 * 2 ≤ 203; decide)
theorem good_ll (t : Tis ss last) : SmD 101 2 (.list [tD' ss]) := SmD.lst (m := 100) (k := 1) (smc t.smT sm0) (by show 101 * 1 ≤ 101; decide)
theorem good_A (t : Tis ss last) (h : Named pt) : ∀ D ∈ thA ss pt, GoodD D := by
  intro D hD
  simp only [thA, List.mem_cons, List.not_mem_nil, or_false] at hD
  rcases hD with rfl | rfl | rfl | rfl | rfl | rfl | rfl | rfl | rfl | rfl
  · exact ⟨trivial, sm_non⟩
  · exact ⟨trivial, smD_int7⟩
  · exact ⟨trivial, cT⟩
  · exact ⟨trivial, smS (by decide +kernel) (by decide +kernel)⟩
  · exact ⟨trivial, gl sm0 (by decide)⟩
  · exact ⟨.inl rfl, gt sm0 (by decide)⟩
  · exact ⟨trivial, gl (smc (cT (n := 92)) (smc t.smT sm0)) (by show 2 ≤ 8; decide)⟩
  · exact ⟨ns_turn (by decide) (fun y e => by cases e), gt (smc (cT (n := 92)) sm0) (by show 1 ≤ 8; decide)⟩
  · exact ⟨ns_turn (by show 2 ≤ 90; decide) (fun y e => by cases e), gt (smc (cT (n := 92)) (smc t.smT (smc t.smT sm0))) (by show 3 ≤ 8; decide)⟩
  · exact ⟨ns_apart (by show 2 ≤ 90; decide) (fun a b c e => by cases e), gt (smc (cA (n := 92)) (smc (sm_pt (n := 92) h) (smc t.smT sm0))) (by show 3 ≤ 8; decide)⟩
theorem good_B (t : Tis ss last) (h : Named pt) : ∀ D ∈ thB ss pt, GoodD D := by
  intro D hD
  simp only [thB, List.mem_cons, List.not_mem_nil, or_false] at hD
  rcases hD with rfl | rfl | rfl
  · exact ⟨ns_apart (by show 4 ≤ 90; decide) (fun a b c e => by cases e), gt (smc (cA (n := 92)) (smc (sm_pt (n := 92) h) (smc t.smT (smc (cZ (n := 92)) (smc (cZ (n := 92)) sm0))))) (by show 5 ≤ 8; decide)⟩
  · exact ⟨ns_tog (by show 1 ≤ 90; decide) (fun a b e => by cases e), gt (smc (cG (n := 92)) (smc (sm_pt (n := 92) h) sm0)) (by show 2 ≤ 8; decide)⟩
  · exact ⟨ns_tog (by show 3 ≤ 90; decide) (fun a b e => by cases e), gt (smc (cG (n := 92)) (smc (sm_pt (n := 92) h) (smc (sm_pt (n := 92) h) (smc (sm_pt (n := 92) h) sm0)))) (by show 4 ≤ 8; decide)⟩
theorem good_C (t : Tis ss last) (h : Named pt) (hw : W ∈ wholeD) : ∀ D ∈ thC ss pt W, GoodD D := by
  obtain ⟨ws, wm⟩ := whole_ok W hw
  intro D hD
  simp only [thC, List.mem_cons, List.not_mem_nil, or_false] at hD
  rcases hD with rfl | rfl | rfl | rfl
  · exact ⟨ns_any ws, (SmD.tup (m := 101) (k := 2) (n := 900) (smc wm (smc (good_ll t) (smc (good_ll t) sm0))) (by show 102 * 3 ≤ 900; decide)).mono (Nat.le_refl _) (by decide)⟩
  · exact ⟨ns_else (by show 1 ≤ 90; decide) t.shT (fun z e => by cases e), gt (smc t.smT (smc (cT (n := 92)) sm0)) (by show 2 ≤ 8; decide)⟩
  · exact ⟨trivial, (SmD.lst (m := 203) (k := 2) (n := 900) (smc (good_tt t) sm0) (by show 204 * 1 ≤ 900; decide)).mono (Nat.le_refl _) (by decide)⟩
  · exact ⟨ns_turn (by show 1 ≤ 90; decide) (fun y e => by cases e; trivial), gt (smc (cT (n := 92)) (smc (sm_pt (n := 92) h) sm0)) (by show 2 ≤ 8; decide)⟩
theorem good_E (t : Tis ss last) (h : Named pt) : ∀ D ∈ thE ss pt, GoodD D := by
  intro D hD
  simp only [thE, List.mem_cons, List.not_mem_nil, or_false] at hD
  subst hD
  exact ⟨ns_apart (by show 3 ≤ 90; decide) (fun a b c e => by cases e; trivial), gt (smc (cA (n := 92)) (smc t.smT (smc (sm_pt (n := 92) h) (smc (cZ (n := 92)) sm0)))) (by show 4 ≤ 8; decide)⟩
theorem good_F (t : Tis ss last) (h : Named pt) : ∀ D ∈ thF ss pt, GoodD D := by
  intro D hD
  simp only [thF, List.mem_cons, List.not_mem_nil, or_false] at hD
  rcases hD with rfl | rfl | rfl
  · exact ⟨ns_tog (by show 2 ≤ 90; decide) (fun a b e => by cases e; exact ⟨_, rfl⟩), gt (smc (cG (n := 92)) (smc (SmD.lst (m := 8) (k := 0) (n := 100) (smc (sm_pt (n := 0) h) sm0) (by show 9 * 1 ≤ 100; decide)) (smc (sm_pt (n := 92) h) sm0))) (by show 3 ≤ 8; decide)⟩
  · exact ⟨ns_tog (by show 2 ≤ 90; decide) (fun a b e => by cases e; exact ⟨_, rfl⟩), gt (smc (cG (n := 92)) (smc t.smT (smc t.smT sm0))) (by show 3 ≤ 8; decide)⟩
  · exact ⟨ns_else (by decide) (shaped_in t) (fun z e => by cases e), (SmD.tup (m := 203) (k := 2) (n := 900) (smc (good_tt t) sm0) (by show 204 * 1 ≤ 900; decide)).mono (Nat.le_refl _) (by decide)⟩
def thAll (ss : List Str) (pt : Str) (W : PyData) : List PyData := (((thA ss pt ++ thB ss pt) ++ thC ss pt W) ++ thE ss pt) ++ thF ss pt
theorem good_all (t : Tis ss last) (h : Named pt) (hw : W ∈ wholeD) : ∀ D ∈ thAll ss pt W, GoodD D := by
  intro D hD
  simp only [thAll, List.mem_append] at hD
  rcases hD with (((z | z) | z) | z) | z
  · exact good_A t h D z
  · exact good_B t h D z
  · exact good_C t h hw D z
  · exact good_E t h D z
  · exact good_F t h D z
theorem good_turn {D : PyData} (o : OddD D) : GoodD (.tuple [.str "turn", D]) := ⟨ns_turn (by show 1 ≤ 90; decide) (fun y e => by cases e; exact o.1), (SmD.tup (m := 120) (k := 3) (n := 900) (smc (cT (n := 112)) (smc o.2 sm0)) (by show 121 * 2 ≤ 900; decide)).mono (Nat.le_refl _) (by decide)⟩
theorem good_apart {D : PyData} (h : Named pt) (o : OddD D) : GoodD (.tuple [.str "apart", .str pt, D, .str "zz"]) := ⟨ns_apart (by show 3 ≤ 90; decide) (fun a b c e => by cases e; exact o.1), (SmD.tup (m := 120) (k := 3) (n := 900) (smc (cA (n := 112)) (smc (sm_pt (n := 112) h) (smc o.2 (smc (cZ (n := 112)) sm0)))) (by show 121 * 4 ≤ 900; decide)).mono (Nat.le_refl _) (by decide)⟩
end
end My
namespace My
open PySem L2
structure PSx (X : Cx) (st : Stmt) (t : TS) : Prop where
  h : PS X st t
structure PSsx (X : Cx) (sts : List Stmt) (t : TS) : Prop where
  h : PSs X sts t
theorem px_cons {X : Cx} {st : Stmt} {rest : List Stmt} {t u : TS} (h1 : PSx X st t) (h2 : PSsx X rest u) : PSsx X (st :: rest) (tSeq t u) := ⟨pss_cons h1.h h2.h⟩
theorem px_of {X : Cx} {sts : List Stmt} {t' : TS} (h : ∀ D σ H, t' D σ H → ∃ t, PSsx X sts t ∧ t D σ H) : PSsx X sts t' := ⟨fun pins s σ H D I hw => by
  obtain ⟨t, r, h2⟩ := h D σ H hw
  exact r.h pins s σ H D I h2⟩
abbrev thN : List Str := ["_law_net", "_law_ties", "_law_big_here", "_law_point", "_law_whole", "_law_odd", "_law_kind"]
abbrev r1 (ss : List Str) (pt : Str) : List (Nat × PyData) := [(1, tD' ss), (3, .str pt)]
abbrev r2 (ss : List Str) (pt : Str) (W : PyData) (O : List PyData) : List (Nat × PyData) := [(1, tD' ss), (3, .str pt), (4, W), (5, .list O)]
def thS (i : Nat) : Stmt := (defBody sThing).getD i (.Pass ⟨0, 0, 0, 0⟩)
theorem scThing : FnScope thN ["_law_net", "_law_ties", "_law_big_here"] (defScope sThing) := ⟨rfl, rfl, rfl, by decide +kernel, rfl, by decide +kernel, by decide +kernel⟩
abbrev ThX (P : Program) (w : World) (K : PySem.W.Frag) (mg : Str → Option Value) (base : Heap) (f : Addr) (cdv : Value) (A : Around) (outer : List PySem.Env) (s : Shared) (H0 : Hp) (E : XK) : Cx := (cxOf CX0 P w K mg base thN "_law_thing" (defScope sThing) f cdv A outer s H0 E).nox
section
variable {P : Program} {w : World} {K : PySem.W.Frag} {mg : Str → Option Value} {base : Heap} {f : Addr} {cdv : Value} {A : Around} {outer : List PySem.Env} {s : Shared} {H0 : Hp} {E : XK} {ss : List Str} {pt : Str} {W : PyData}
theorem f2 : ∃ q1 q2 q3 q4 q5 q6 q7 q8 q9 q10 q11 qa qb qc qd qe qf qg, thS 2 = .Assign [.Name "_law_whole" qa] (.Subscript (.List [.Constant (.str "turn") 0 q1, .Constant (.str "apart") 0 q2, .Constant (.str "together") 0 q3, .Constant (.str "") 0 q4, .Constant (.str "Turn") 0 q5, .Constant (.str "take") 0 q6, .Constant .none 0 q7, .Constant (.int 0) 0 q8, .Constant (.bool true) 0 q9, .List [.Constant (.str "turn") 0 q10] q11] qb) (.BinOp (.Name "_law_big_here" qc) .Mod (.Constant (.int 10) 0 qd) qe) qf) qg := ⟨_, _, _, _, _, _, _, _, _, _, _, _, _, _, _, _, _, _, rfl⟩
theorem ix_mod {te : TE} {qa qb qc qd qe qf qg : Pos} {es : List Expr} (h : PEx (ThX P w K mg base f cdv A outer s H0 E) (.List es qb) te) : PS (ThX P w K mg base f cdv A outer s H0 E) (.Assign [.Name "_law_whole" qa] (.Subscript (.List es qb) (.BinOp (.Name "_law_big_here" qc) .Mod (.Constant (.int 10) 0 qd) qe) qf) qg) (tAsg (tOp (rIxL K) te (tOp (rI (fun _ j => 0 < j) fun i j => .int (i % j)) (tVar 2) (tC (.int 10)))) (gName 4)) := ps_set (i := 4) scThing.nd rfl (Or.inl rfl) (pe_ix ix_list h.h (pe_op op_mod (pv 2) pe_int) (fun _ _ => rfl))
theorem th2 : PSx (ThX P w K mg base f cdv A outer s H0 E) (thS 2) (tAsg (tOp (rIxL K) (tD [] (.list wholeD)) (tOp (rI (fun _ j => 0 < j) fun i j => .int (i % j)) (tVar 2) (tC (.int 10)))) (gName 4)) := by
  obtain ⟨q1, q2, q3, q4, q5, q6, q7, q8, q9, q10, q11, qa, qb, qc, qd, qe, qf, qg, e⟩ := f2
  rw [e]
  have h1 : PEx (ThX P w K mg base f cdv A outer s H0 E) (.List [.Constant (.str "turn") 0 q1, .Constant (.str "apart") 0 q2, .Constant (.str "together") 0 q3, .Constant (.str "") 0 q4, .Constant (.str "Turn") 0 q5, .Constant (.str "take") 0 q6, .Constant .none 0 q7, .Constant (.int 0) 0 q8, .Constant (.bool true) 0 q9, .List [.Constant (.str "turn") 0 q10] q11] qb) (tD [] (.list wholeD)) := pd_lst (ds_c pd_str (ds_c pd_str (ds_c pd_str (ds_c pd_str (ds_c pd_str (ds_c pd_str (ds_c pd_non (ds_c pd_int (ds_c pd_bl (ds_l (pd_lst (ds_c pd_str ds_nil) (by show 1 ≤ 1000; decide)) ds_nil)))))))))) (by simp only [wholeD, List.length_cons, List.length_nil]; decide)
  refine ⟨?_⟩
  refine ix_mod ?_
  exact h1
theorem ps_set5 {te : TE} {qa qb qc : Pos} {es : List Expr} (h : PEx (ThX P w K mg base f cdv A outer s H0 E) (.List es qb) te) : PS (ThX P w K mg base f cdv A outer s H0 E) (.Assign [.Name "_law_odd" qa] (.List es qb) qc) (tAsg te (gName 5)) := ps_set (i := 5) scThing.nd rfl (Or.inl rfl) h.h
theorem f3 : ∃ q1 q2 q3 q4 q5 q6 q7 q8 q9 q10 q11 q12 q13 q14 q15 q16 q17 q18 q19 qa qb qc, thS 3 = .Assign [.Name "_law_odd" qa] (.List [.Constant .none 0 q1, .Constant (.int 7) 0 q2, .Constant (.str "turn") 0 q3, .Constant (.str "") 0 q4, .List [] q5, .Tuple [] 0 q6, .List [.Constant (.str "turn") 0 q7, .Name "_law_ties" q8] q9, .Tuple [.Constant (.str "turn") 0 q10] 0 q11, .Tuple [.Constant (.str "turn") 0 q12, .Name "_law_ties" q13, .Name "_law_ties" q14] 0 q15, .Tuple [.Constant (.str "apart") 0 q16, .Name "_law_point" q17, .Name "_law_ties" q18] 0 q19] qb) qc := ⟨_, _, _, _, _, _, _, _, _, _, _, _, _, _, _, _, _, _, _, _, _, _, rfl⟩
set_option maxHeartbeats 2000000 in
theorem th3 : PSx (ThX P w K mg base f cdv A outer s H0 E) (thS 3) (tAsg (tD (r1 ss pt) (.list (thA ss pt))) (gName 5)) := by
  obtain ⟨q1, q2, q3, q4, q5, q6, q7, q8, q9, q10, q11, q12, q13, q14, q15, q16, q17, q18, q19, qa, qb, qc, e⟩ := f3
  rw [e]
  have m1 : ((1, tD' ss) : Nat × PyData) ∈ r1 ss pt := by simp
  have m3 : ((3, .str pt) : Nat × PyData) ∈ r1 ss pt := by simp
  have h1 : PEx (ThX P w K mg base f cdv A outer s H0 E) (.List [.Constant .none 0 q1, .Constant (.int 7) 0 q2, .Constant (.str "turn") 0 q3, .Constant (.str "") 0 q4, .List [] q5, .Tuple [] 0 q6, .List [.Constant (.str "turn") 0 q7, .Name "_law_ties" q8] q9, .Tuple [.Constant (.str "turn") 0 q10] 0 q11, .Tuple [.Constant (.str "turn") 0 q12, .Name "_law_ties" q13, .Name "_law_ties" q14] 0 q15, .Tuple [.Constant (.str "apart") 0 q16, .Name "_law_point" q17, .Name "_law_ties" q18] 0 q19] qb) (tD (r1 ss pt) (.list (thA ss pt))) := pd_lst (ds_c pd_non (ds_c pd_int (ds_c pd_str (ds_c pd_str (ds_l (pd_lst ds_nil (by show 0 ≤ 1000; decide)) (ds_t (pd_tup ds_nil (by show 0 ≤ 1000; decide)) (ds_l (pd_lst (ds_c pd_str (ds_n (pd_nm (pv 1) m1) ds_nil)) (by show 2 ≤ 1000; decide)) (ds_t (pd_tup (ds_c pd_str ds_nil) (by show 1 ≤ 1000; decide)) (ds_t (pd_tup (ds_c pd_str (ds_n (pd_nm (pv 1) m1) (ds_n (pd_nm (pv 1) m1) ds_nil))) (by show 3 ≤ 1000; decide)) (ds_t (pd_tup (ds_c pd_str (ds_n (pd_nm (pv 3) m3) (ds_n (pd_nm (pv 1) m1) ds_nil))) (by show 3 ≤ 1000; decide)) ds_nil)))))))))) (by simp only [thA, List.length_cons, List.length_nil]; decide)
  refine ⟨?_⟩
  refine ps_set5 ?_
  exact h1
def esB : List Expr := match thS 4 with
  | .Assign _ (.BinOp _ _ (.List es _) _) _ => es
  | _ => []
theorem fB : ∃ q1 q2 q3 q4 q5 q6 q7 q8 q9 q10 q11 q12 q13 q14, esB = [.Tuple [.Constant (.str "apart") 0 q1, .Name "_law_point" q2, .Name "_law_ties" q3, .Constant (.str "zz") 0 q4, .Constant (.str "zz") 0 q5] 0 q6, .Tuple [.Constant (.str "together") 0 q7, .Name "_law_point" q8] 0 q9, .Tuple [.Constant (.str "together") 0 q10, .Name "_law_point" q11, .Name "_law_point" q12, .Name "_law_point" q13] 0 q14] := ⟨_, _, _, _, _, _, _, _, _, _, _, _, _, _, rfl⟩
set_option maxHeartbeats 2000000 in
theorem paB : PAx (ThX P w K mg base f cdv A outer s H0 E) esB (tDs (r2 ss pt W (thA ss pt)) (thB ss pt)) := by
  obtain ⟨q1, q2, q3, q4, q5, q6, q7, q8, q9, q10, q11, q12, q13, q14, e⟩ := fB
  rw [e]
  have m1 : ((1, tD' ss) : Nat × PyData) ∈ r2 ss pt W (thA ss pt) := by simp
  have m3 : ((3, .str pt) : Nat × PyData) ∈ r2 ss pt W (thA ss pt) := by simp
  have m4 : ((4, W) : Nat × PyData) ∈ r2 ss pt W (thA ss pt) := by simp
  exact (ds_t (pd_tup (ds_c pd_str (ds_n (pd_nm (pv 3) m3) (ds_n (pd_nm (pv 1) m1) (ds_c pd_str (ds_c pd_str ds_nil))))) (by show 5 ≤ 1000; decide)) (ds_t (pd_tup (ds_c pd_str (ds_n (pd_nm (pv 3) m3) ds_nil)) (by show 2 ≤ 1000; decide)) (ds_t (pd_tup (ds_c pd_str (ds_n (pd_nm (pv 3) m3) (ds_n (pd_nm (pv 3) m3) (ds_n (pd_nm (pv 3) m3) ds_nil)))) (by show 4 ≤ 1000; decide)) ds_nil)))
set_option maxHeartbeats 2000000 in
theorem th4 : PSx (ThX P w K mg base f cdv A outer s H0 E) (thS 4) (tAsg (tD (r2 ss pt W (thA ss pt)) (.list ((thA ss pt) ++ thB ss pt))) (gName 5)) := by
  have m5 : ((5, .list (thA ss pt)) : Nat × PyData) ∈ r2 ss pt W (thA ss pt) := by simp
  refine ⟨?_⟩
  exact ps_set (i := 5) scThing.nd rfl (Or.inl rfl) (pe_of (pd_cat (pd_nm (pv 5) m5) (pd_lst paB (by simp only [thA, thB, thC, thE, thF, wholeD, List.length_append, List.length_cons, List.length_nil]; decide)) (by simp only [thA, thB, thC, thE, thF, wholeD, List.length_append, List.length_cons, List.length_nil]; decide)))
def esC : List Expr := match thS 5 with
  | .Assign _ (.BinOp _ _ (.List es _) _) _ => es
  | _ => []
theorem fC : ∃ q1 q2 q3 q4 q5 q6 q7 q8 q9 q10 q11 q12 q13 q14 q15 q16, esC = [.Tuple [.Name "_law_whole" q1, .List [.Name "_law_ties" q2] q3, .List [.Name "_law_ties" q4] q5] 0 q6, .Tuple [.Name "_law_ties" q7, .Constant (.str "turn") 0 q8] 0 q9, .List [.Tuple [.Constant (.str "turn") 0 q10, .Name "_law_ties" q11] 0 q12] q13, .Tuple [.Constant (.str "turn") 0 q14, .Name "_law_point" q15] 0 q16] := ⟨_, _, _, _, _, _, _, _, _, _, _, _, _, _, _, _, rfl⟩
set_option maxHeartbeats 2000000 in
theorem paC : PAx (ThX P w K mg base f cdv A outer s H0 E) esC (tDs (r2 ss pt W (thA ss pt ++ thB ss pt)) (thC ss pt W)) := by
  obtain ⟨q1, q2, q3, q4, q5, q6, q7, q8, q9, q10, q11, q12, q13, q14, q15, q16, e⟩ := fC
  rw [e]
  have m1 : ((1, tD' ss) : Nat × PyData) ∈ r2 ss pt W (thA ss pt ++ thB ss pt) := by simp
  have m3 : ((3, .str pt) : Nat × PyData) ∈ r2 ss pt W (thA ss pt ++ thB ss pt) := by simp
  have m4 : ((4, W) : Nat × PyData) ∈ r2 ss pt W (thA ss pt ++ thB ss pt) := by simp
  exact (ds_t (pd_tup (ds_n (pd_nm (pv 4) m4) (ds_l (pd_lst (ds_n (pd_nm (pv 1) m1) ds_nil) (by show 1 ≤ 1000; decide)) (ds_l (pd_lst (ds_n (pd_nm (pv 1) m1) ds_nil) (by show 1 ≤ 1000; decide)) ds_nil))) (by show 3 ≤ 1000; decide)) (ds_t (pd_tup (ds_n (pd_nm (pv 1) m1) (ds_c pd_str ds_nil)) (by show 2 ≤ 1000; decide)) (ds_l (pd_lst (ds_t (pd_tup (ds_c pd_str (ds_n (pd_nm (pv 1) m1) ds_nil)) (by show 2 ≤ 1000; decide)) ds_nil) (by show 1 ≤ 1000; decide)) (ds_t (pd_tup (ds_c pd_str (ds_n (pd_nm (pv 3) m3) ds_nil)) (by show 2 ≤ 1000; decide)) ds_nil))))
set_option maxHeartbeats 2000000 in
theorem th5 : PSx (ThX P w K mg base f cdv A outer s H0 E) (thS 5) (tAsg (tD (r2 ss pt W (thA ss pt ++ thB ss pt)) (.list ((thA ss pt ++ thB ss pt) ++ thC ss pt W))) (gName 5)) := by
  have m5 : ((5, .list (thA ss pt ++ thB ss pt)) : Nat × PyData) ∈ r2 ss pt W (thA ss pt ++ thB ss pt) := by simp
  refine ⟨?_⟩
  exact ps_set (i := 5) scThing.nd rfl (Or.inl rfl) (pe_of (pd_cat (pd_nm (pv 5) m5) (pd_lst paC (by simp only [thA, thB, thC, thE, thF, wholeD, List.length_append, List.length_cons, List.length_nil]; decide)) (by simp only [thA, thB, thC, thE, thF, wholeD, List.length_append, List.length_cons, List.length_nil]; decide)))
def esE : List Expr := match thS 6 with
  | .Assign _ (.BinOp _ _ (.List es _) _) _ => es
  | _ => []
theorem fE : ∃ q1 q2 q3 q4 q5, esE = [.Tuple [.Constant (.str "apart") 0 q1, .Name "_law_ties" q2, .Name "_law_point" q3, .Constant (.str "zz") 0 q4] 0 q5] := ⟨_, _, _, _, _, rfl⟩
set_option maxHeartbeats 2000000 in
theorem paE : PAx (ThX P w K mg base f cdv A outer s H0 E) esE (tDs (r2 ss pt W ((thA ss pt ++ thB ss pt) ++ thC ss pt W)) (thE ss pt)) := by
  obtain ⟨q1, q2, q3, q4, q5, e⟩ := fE
  rw [e]
  have m1 : ((1, tD' ss) : Nat × PyData) ∈ r2 ss pt W ((thA ss pt ++ thB ss pt) ++ thC ss pt W) := by simp
  have m3 : ((3, .str pt) : Nat × PyData) ∈ r2 ss pt W ((thA ss pt ++ thB ss pt) ++ thC ss pt W) := by simp
  have m4 : ((4, W) : Nat × PyData) ∈ r2 ss pt W ((thA ss pt ++ thB ss pt) ++ thC ss pt W) := by simp
  exact (ds_t (pd_tup (ds_c pd_str (ds_n (pd_nm (pv 1) m1) (ds_n (pd_nm (pv 3) m3) (ds_c pd_str ds_nil)))) (by show 4 ≤ 1000; decide)) ds_nil)
set_option maxHeartbeats 2000000 in
theorem th6 : PSx (ThX P w K mg base f cdv A outer s H0 E) (thS 6) (tAsg (tD (r2 ss pt W ((thA ss pt ++ thB ss pt) ++ thC ss pt W)) (.list (((thA ss pt ++ thB ss pt) ++ thC ss pt W) ++ thE ss pt))) (gName 5)) := by
  have m5 : ((5, .list ((thA ss pt ++ thB ss pt) ++ thC ss pt W)) : Nat × PyData) ∈ r2 ss pt W ((thA ss pt ++ thB ss pt) ++ thC ss pt W) := by simp
  refine ⟨?_⟩
  exact ps_set (i := 5) scThing.nd rfl (Or.inl rfl) (pe_of (pd_cat (pd_nm (pv 5) m5) (pd_lst paE (by simp only [thA, thB, thC, thE, thF, wholeD, List.length_append, List.length_cons, List.length_nil]; decide)) (by simp only [thA, thB, thC, thE, thF, wholeD, List.length_append, List.length_cons, List.length_nil]; decide)))
def esF : List Expr := match thS 7 with
  | .Assign _ (.BinOp _ _ (.List es _) _) _ => es
  | _ => []
theorem fF : ∃ q1 q2 q3 q4 q5 q6 q7 q8 q9 q10 q11 q12 q13, esF = [.Tuple [.Constant (.str "together") 0 q1, .List [.Name "_law_point" q2] q3, .Name "_law_point" q4] 0 q5, .Tuple [.Constant (.str "together") 0 q6, .Name "_law_ties" q7, .Name "_law_ties" q8] 0 q9, .Tuple [.Tuple [.Constant (.str "turn") 0 q10, .Name "_law_ties" q11] 0 q12] 0 q13] := ⟨_, _, _, _, _, _, _, _, _, _, _, _, _, rfl⟩
set_option maxHeartbeats 2000000 in
theorem paF : PAx (ThX P w K mg base f cdv A outer s H0 E) esF (tDs (r2 ss pt W (((thA ss pt ++ thB ss pt) ++ thC ss pt W) ++ thE ss pt)) (thF ss pt)) := by
  obtain ⟨q1, q2, q3, q4, q5, q6, q7, q8, q9, q10, q11, q12, q13, e⟩ := fF
  rw [e]
  have m1 : ((1, tD' ss) : Nat × PyData) ∈ r2 ss pt W (((thA ss pt ++ thB ss pt) ++ thC ss pt W) ++ thE ss pt) := by simp
  have m3 : ((3, .str pt) : Nat × PyData) ∈ r2 ss pt W (((thA ss pt ++ thB ss pt) ++ thC ss pt W) ++ thE ss pt) := by simp
  have m4 : ((4, W) : Nat × PyData) ∈ r2 ss pt W (((thA ss pt ++ thB ss pt) ++ thC ss pt W) ++ thE ss pt) := by simp
  exact (ds_t (pd_tup (ds_c pd_str (ds_l (pd_lst (ds_n (pd_nm (pv 3) m3) ds_nil) (by show 1 ≤ 1000; decide)) (ds_n (pd_nm (pv 3) m3) ds_nil))) (by show 3 ≤ 1000; decide)) (ds_t (pd_tup (ds_c pd_str (ds_n (pd_nm (pv 1) m1) (ds_n (pd_nm (pv 1) m1) ds_nil))) (by show 3 ≤ 1000; decide)) (ds_t (pd_tup (ds_t (pd_tup (ds_c pd_str (ds_n (pd_nm (pv 1) m1) ds_nil)) (by show 2 ≤ 1000; decide)) ds_nil) (by show 1 ≤ 1000; decide)) ds_nil)))
set_option maxHeartbeats 2000000 in
theorem th7 : PSx (ThX P w K mg base f cdv A outer s H0 E) (thS 7) (tAsg (tD (r2 ss pt W (((thA ss pt ++ thB ss pt) ++ thC ss pt W) ++ thE ss pt)) (.list ((((thA ss pt ++ thB ss pt) ++ thC ss pt W) ++ thE ss pt) ++ thF ss pt))) (gName 5)) := by
  have m5 : ((5, .list (((thA ss pt ++ thB ss pt) ++ thC ss pt W) ++ thE ss pt)) : Nat × PyData) ∈ r2 ss pt W (((thA ss pt ++ thB ss pt) ++ thC ss pt W) ++ thE ss pt) := by simp
  refine ⟨?_⟩
  exact ps_set (i := 5) scThing.nd rfl (Or.inl rfl) (pe_of (pd_cat (pd_nm (pv 5) m5) (pd_lst paF (by simp only [thA, thB, thC, thE, thF, wholeD, List.length_append, List.length_cons, List.length_nil]; decide)) (by simp only [thA, thB, thC, thE, thF, wholeD, List.length_append, List.length_cons, List.length_nil]; decide)))
end
end My
namespace My
open PySem L2
theorem pt_named {net : List Tr} (tx : TxN net) {x : Str} (h : isPt net x) : Named x := by
  obtain ⟨t, ht, h⟩ := h
  rcases h with rfl | rfl
  · exact (tx t ht).2.1
  · exact (tx t ht).2.2.1
def spThing : Sp := fun vs H Q _ => ∃ (p tp : Addr) (net : List Tr) (ss : List Str) (last : Str) (b : Int), vs = [.ref p, .ref tp, .int b] ∧ NetAt H p net ∧ net.length ≤ 12 ∧ TxN net ∧ net ≠ [] ∧ LsS H tp ss ∧ Tis ss last ∧ ∀ v D H', Ext H H' → Dh H' v D → GoodD D → Q v H'
theorem hbT : defBody sThing = [thS 0, thS 1, thS 2, thS 3, thS 4, thS 5, thS 6, thS 7, thS 8, thS 9, thS 10, thS 11] := rfl
abbrev thBody : List Stmt := [thS 3, thS 4, thS 5, thS 6, thS 7, thS 8, thS 9, thS 10, thS 11]
section
variable {P : Program} {w : World} {K : PySem.W.Frag} {mg : Str → Option Value} {base : Heap} {f f1 f2 f3 : Addr} {fd fd1 fd2 fd3 : FuncData}
structure ThE (H : Hp) (p tp : Addr) (ss : List Str) (last pt : Str) : Prop where
  hs : LsS H tp ss
  ts : Tis ss last
  np : Named pt
def tTh : TS := fun D σ H => ∃ (p tp : Addr) (ss : List Str) (last pt : Str) (b : Int) (wv : V) (W : PyData) (x5 x6 : Option V), σ = [some (.ref p), some (.ref tp), some (.int b), some (.str pt), some wv, x5, x6] ∧ ThE H p tp ss last pt ∧ W ∈ wholeD ∧ Dh H wv W ∧ ∀ v D' H', Ext H H' → Dh H' v D' → GoodD D' → D.rt v H'
set_option maxHeartbeats 8000000 in
theorem th_body {cdv : Value} {A : Around} {outer : List PySem.Env} {s : Shared} {H0 : Hp} {E : XK} (hr1 : Room 1 (ThX P w K mg base f cdv A outer s H0 E).A)
    (G2 : FnOk P w K mg base CX0 1 f2 fd2 ["_law_ties", "_law_kind"] spOddT) (bG2 : Binds K fd2 ["_law_ties", "_law_kind"] []) (kG2 : PySem.W.keepIn K (.ref f2) = true) (mG2 : mg "_law_odd_ties" = some (.ref f2)) :
    PSsx (ThX P w K mg base f cdv A outer s H0 E) thBody tTh := by
  refine px_of fun D σ H h => ?_
  obtain ⟨p, tp, ss, last, pt, b, wv, W, x5, x6, rfl, te, hw, dw, q⟩ := h
  have R8 : PSsx (ThX P w K mg base f cdv A outer s H0 E) [thS 8, thS 9, thS 10, thS 11] _ := ⟨(pss_cons (ps_set (i := 6) scThing.nd rfl (Or.inl rfl) (pe_op op_mod (pe_op op_fdiv (pv 2) pe_int) pe_int)) (pss_cons (ps_if (pt_cmpR op_lt (pv 6) pe_int (nomark _)) (pss_one (ps_ret (pe_ix ix_list (pv 5) (pv 6) (fun _ _ => rfl)))) pss_nil) (pss_cons (ps_if (pt_cmpR op_eq (pe_op op_mod (pv 6) pe_int) pe_int (nomark _)) (pss_one (ps_ret (pe_tup (pa_cons pe_str (pa_cons (pe_call G2 hr1 rfl mG2 kG2 bG2 .nil pass0 (pa_cons (pv 1) (pa_cons (pe_op op_sub (pv 6) pe_int) pa_nil))) pa_nil))))) pss_nil) (pss_one (ps_ret (pe_tup (pa_cons pe_str (pa_cons (pv 3) (pa_cons (pe_call G2 hr1 rfl mG2 kG2 bG2 .nil pass0 (pa_cons (pv 1) (pa_cons (pe_op op_sub (pv 6) pe_int) pa_nil))) (pa_cons pe_str pa_nil))))))))))⟩
  have R7 := px_cons (th7 (ss := ss) (pt := pt) (W := W)) R8
  have R6 := px_cons (th6 (ss := ss) (pt := pt) (W := W)) R7
  have R5 := px_cons (th5 (ss := ss) (pt := pt) (W := W)) R6
  have R4 := px_cons (th4 (ss := ss) (pt := pt) (W := W)) R5
  have R := px_cons (th3 (ss := ss) (pt := pt)) R4
  refine ⟨_, R, ?_⟩
  obtain ⟨hs, ts, np⟩ := te
  have l := ts.l
  have en1 : ∀ {x : Option V} {y : Option V} {H' : Hp}, Ext H H' → Env [some (.ref p), some (.ref tp), some (.int b), some (.str pt), some wv, x, y] H' (r1 ss pt) := fun e => env_cons (v := .ref tp) rfl (dh_strs (e _ _ hs)) (env_cons (v := .str pt) rfl (.str pt) env_nil)
  have en2 : ∀ {v : V} {y : Option V} {H' : Hp} {O : List PyData}, Ext H H' → Dh H' v (.list O) → Env [some (.ref p), some (.ref tp), some (.int b), some (.str pt), some wv, some v, y] H' (r2 ss pt W O) := fun e d => env_cons (v := .ref tp) rfl (dh_strs (e _ _ hs)) (env_cons (v := .str pt) rfl (.str pt) (env_cons (v := wv) rfl (dw.ext e) (env_cons rfl d env_nil)))
  refine ⟨en1 (Ext.refl _), fun v1 H1 e1 d1 => ?_⟩
  refine ⟨en2 e1 d1, fun v2 H2 e2 d2 => ?_⟩
  have E2 := e1.trans e2
  refine ⟨en2 E2 d2, fun v3 H3 e3 d3 => ?_⟩
  have E3 := E2.trans e3
  refine ⟨en2 E3 d3, fun v4 H4 e4 d4 => ?_⟩
  have E4 := E3.trans e4
  refine ⟨en2 E4 d4, fun v5 H5 e5 d5 => ?_⟩
  have E5 := E4.trans e5
  refine ⟨_, rfl, _, _, rfl, rfl, ⟨by decide, by decide⟩, _, _, rfl, rfl, (by show (0 : Int) < _; decide), ?_⟩
  obtain ⟨k0, k1⟩ := emod_of (b / 10) (show (0 : Int) < 34 by decide)
  refine ⟨_, rfl, _, _, rfl, rfl, _, rfl, ite2 (fun c => ?_) (fun c => ?_)⟩
  · have c' : b / 10 % 34 < 21 := of_decide_eq_true c
    cases d5 with
    | lst g1 g2 =>
      obtain ⟨u, Dd, ua, um, ud⟩ := dh_at g2 (i := b / 10 % 34) k0 c'
      exact ⟨_, rfl, _, rfl, _, _, _, _, rfl, rfl, SqL.of g1, ua, q u Dd H5 E5 ud (good_all ts np hw Dd um)⟩
  refine ⟨_, rfl, _, _, rfl, rfl, (by show (0 : Int) < _; decide), rfl, _, rfl, ite2 (fun c => ?_) (fun c => ?_)⟩
  · refine ⟨_, rfl, _, rfl, _, _, rfl, rfl, tp, ss, last, _, rfl, E5 _ _ hs, ts, fun v D' H6 e6 dv o => ?_⟩
    refine ⟨(by show 2 ≤ sizeLine; decide), fun r hr => ?_⟩
    have X := Ext.new hr (.tup [V.str "turn", v])
    exact q _ _ _ (E5.trans (e6.trans X)) (.tup upd_same (.cons (.str _) (.cons (dv.ext X) .nil))) (good_turn o)
  · refine ⟨_, rfl, _, rfl, _, rfl, _, _, rfl, rfl, tp, ss, last, _, rfl, E5 _ _ hs, ts, fun v D' H6 e6 dv o => ?_⟩
    refine ⟨(by show 4 ≤ sizeLine; decide), fun r hr => ?_⟩
    have X := Ext.new hr (.tup [V.str "apart", V.str pt, v, V.str "zz"])
    exact q _ _ _ (E5.trans (e6.trans X)) (.tup upd_same (.cons (.str _) (.cons (.str _) (.cons (dv.ext X) (.cons (.str _) .nil))))) (good_apart np o)
set_option maxHeartbeats 8000000 in
theorem ok_thing (F : Fun K "_law_thing" "_law_thing" sThing f fd)
    (G1 : FnOk P w K mg base CX0 2 f1 fd1 ["_law_net"] spPoints) (bG1 : Binds K fd1 ["_law_net"] []) (kG1 : PySem.W.keepIn K (.ref f1) = true) (mG1 : mg "_law_points" = some (.ref f1))
    (G2 : FnOk P w K mg base CX0 1 f2 fd2 ["_law_ties", "_law_kind"] spOddT) (bG2 : Binds K fd2 ["_law_ties", "_law_kind"] []) (kG2 : PySem.W.keepIn K (.ref f2) = true) (mG2 : mg "_law_odd_ties" = some (.ref f2)) (ml : mg "len" = none) : FnOk P w K mg base CX0 3 f fd ["_law_net", "_law_ties", "_law_big_here"] spThing := by
  refine F.ok scThing (fun vs H Q E h => ?_) (fun cdv A outer s H vs Q E hr h => ?_)
  · obtain ⟨p, tp, net, ss, last, b, rfl, _⟩ := h
    rfl
  obtain ⟨p, tp, net, ss, last, b, rfl, nt, hl, tx, nz, hs, ts, q⟩ := h
  have hr1 := hr.mono (j := 1) (by decide)
  have hr2 := hr.mono (j := 2) (by decide)
  have B := th_body (P := P) (w := w) (K := K) (mg := mg) (base := base) (f := f) (cdv := cdv) (A := A) (outer := outer) (s := s) (H0 := H) (E := E) hr1 G2 bG2 kG2 mG2
  rw [hbT]
  have s0 : PSx (ThX P w K mg base f cdv A outer s H E) (thS 0) _ := ⟨(ps_set (i := 3) scThing.nd rfl (Or.inl rfl) (pe_ix ix_list (pe_call G1 hr2 rfl mG1 kG1 bG1 .nil pass0 (pa_cons (pv 0) pa_nil)) (pe_op op_mod (pv 2) (pe_callB call_len_seq rfl ml PySem.boot_len (pa_cons (pe_call G1 hr2 rfl mG1 kG1 bG1 .nil pass0 (pa_cons (pv 0) pa_nil)) pa_nil))) (fun _ _ => rfl)))⟩
  have s1 : PSx (ThX P w K mg base f cdv A outer s H E) (thS 1) _ := ⟨(ps_set (i := 2) scThing.nd rfl (Or.inl rfl) (pe_op op_fdiv (pv 2) pe_int))⟩
  have R := px_cons s0 (px_cons s1 (px_cons th2 B))
  refine ⟨_, R.h, ?_⟩
  obtain ⟨t0, r0, en0⟩ : ∃ t r, net = t :: r := by
    cases net with
    | nil => exact absurd rfl nz
    | cons t r => exact ⟨t, r, rfl⟩
  refine ⟨_, rfl, p, net, rfl, nt, hl, fun r ps H1 e1 r0' hps pok psr pl => ?_⟩
  refine ⟨_, rfl, _, rfl, p, net, rfl, nt.ext e1, hl, fun rr ps2 H2 e2 rr0 hps2 pok2 psr2 pl2 => ?_⟩
  have eq : ps2 = ps := rise_ext psr2 psr fun x => (pok2.2 x).trans (pok.2 x).symm
  subst eq
  have pp : 0 < ps2.length := by
    have : t0.2.1 ∈ ps2 := (pok2.2 _).mpr ⟨t0, by rw [en0]; exact List.mem_cons_self, .inl rfl⟩
    exact List.length_pos_of_mem this
  have pos : (0 : Int) < (((ps2.map V.str).length : Nat) : Int) := by rw [List.length_map]; omega
  refine ⟨rr, _, rfl, .inl (SqL.of hps2), _, _, rfl, rfl, pos, ?_⟩
  obtain ⟨j0, j1⟩ := emod_of b pos
  have j1' : b % (((ps2.map V.str).length : Nat) : Int) < ((ps2.map PyData.str).length : Int) := by rw [List.length_map] at j1 ⊢; rw [List.length_map]; exact j1
  obtain ⟨v, Dv, va, vm, vd⟩ := dh_at (dhs_strs (H := H2) ps2) j0 j1'
  obtain ⟨pt, ptm, rfl⟩ := List.mem_map.mp vm
  cases vd
  have np : Named pt := pt_named tx ((pok2.2 pt).mp ptm)
  refine ⟨r, _, _, _, rfl, rfl, SqL.of (e2 _ _ hps), va, ?_⟩
  refine ⟨_, rfl, _, _, rfl, rfl, ⟨by decide, by decide⟩, ?_⟩
  refine ⟨env_nil, fun v3 H3 e3 d3 => ?_⟩
  have E3 := e1.trans (e2.trans e3)
  refine ⟨_, rfl, _, _, rfl, rfl, (by show (0 : Int) < _; decide), ?_⟩
  obtain ⟨w0, w1⟩ := emod_of (b / 20) (show (0 : Int) < 10 by decide)
  cases d3 with
  | lst g1 g2 =>
    obtain ⟨wv, W, wa, wm, wd⟩ := dh_at g2 w0 w1
    refine ⟨_, _, _, _, rfl, rfl, SqL.of g1, wa, ?_⟩
    exact ⟨p, tp, ss, last, pt, b / 20, wv, W, none, none, rfl, ⟨E3 _ _ hs, ts, np⟩, wm, wd, fun v D' H' e d g => q v D' H' (E3.trans e) d g⟩
end
end My
namespace My
open PySem L2
theorem named_of {s : Str} (h : (s.cps.toList.all fun c => decide (c ∈ sg.cps.toList)) = true) (l : decide (1 ≤ s.length ∧ s.length ≤ 6) = true) : Named s :=
  ⟨fun c hc => of_decide_eq_true (List.all_eq_true.mp h c hc), of_decide_eq_true l⟩
theorem tx_abc : TxN [("a", "b", "c")] := fun t ht => by
  rw [List.mem_singleton] at ht
  subst ht
  exact ⟨named_of (by decide +kernel) (by decide +kernel), named_of (by decide +kernel) (by decide +kernel), named_of (by decide +kernel) (by decide +kernel), by decide +kernel⟩
theorem NetAt.copy {H H' : Hp} {p l : Addr} {as : List Addr} {net : List Tr} (pr : Paired (fun a t => H a = some (.tup (trV t))) as net) (e : Ext H H') (h : H' l = some (.lst (as.map V.ref))) : NetAt H' l net := ⟨as, h, Paired.mapP pr fun a t z => e _ _ z⟩
theorem eqN_net (net : List Tr) : (if true = true then !PyData.eqv (netD net) (netD net) else PyData.eqv (netD net) (netD net)) = false := by
  rw [eqv_net]; rfl
theorem boot_repr' : bootBuiltins "repr" = some (.builtin "repr") := by decide +kernel
theorem rise_nd {ss : List Str} (rs : Rise ss) : ss.Nodup := rs.imp fun h e => by rw [e, sLtB_irr] at h; cases h
theorem tis_of {net : List Tr} {ss : List Str} (tx : TxN net) (hl : net.length ≤ 12) (rs : Rise ss) (sub : ∀ x ∈ ss, x ∈ net.map nmF) (ne : ss ≠ []) : ∃ last, Tis ss last := by
  refine ⟨ss.getLast ne, ?_, fun s hs => ?_, rs, ss.dropLast, (List.dropLast_concat_getLast ne).symm⟩
  · have := List.Nodup.length_le_of_subset (rise_nd rs) sub
    rw [List.length_map] at this
    omega
  · obtain ⟨t, ht, e⟩ := List.mem_map.mp (sub s hs)
    rw [← e]; exact (tx t ht).1
def tTB : TE := fun σ H Q => ∃ (p : Addr) (net : List Tr) (b : Int), σ[1]? = some (some (.ref p)) ∧ σ[3]? = some (some (.int b)) ∧ NetAt H p net ∧ net.length ≤ 12 ∧ TxN net ∧ net ≠ [] ∧ ∀ (tp : Addr) (ss : List Str) (last : Str) H', Ext H H' → LsS H' tp ss → Tis ss last → Q (.ref tp) H'
def LW (a : Addr) (H : Hp) (σ : St) (H' : Hp) : Prop := ∃ (p : Addr) (net : List Tr), σ = [some (.ref a), some (.ref p), none, none, none, none, none] ∧ Ext H H' ∧ NetAt H' p net ∧ net.length ≤ 12 ∧ TxN net ∧ net ≠ []
def spLaw (K : PySem.W.Frag) : Sp := fun vs H Q _ => ∃ (a : Addr) (ns : List Int), vs = [.ref a] ∧ SqL K H a (ns.map V.int) ∧ ns.length ≤ 63 ∧ ∀ H', Q (.bl true) H'
abbrev laN : List Str := ["_law_script", "_law_net", "_law_k", "_law_big_here", "_law_thing_here", "_law_handed", "_law_kept"]
section
variable {P : Program} {w : World} {K : PySem.W.Frag} {mg : Str → Option Value} {base : Heap} {f f1 f2 f3 f4 f5 : Addr} {fd fd1 fd2 fd3 fd4 fd5 : FuncData}
theorem scLaw : FnScope laN ["_law_script"] (defScope sLaw) := ⟨rfl, rfl, rfl, by decide +kernel, rfl, by decide +kernel, by decide +kernel⟩
set_option maxHeartbeats 8000000 in
theorem ok_law (F : Fun K "law" "law" sLaw f fd)
    (G1 : FnOk P w K mg base CX0 3 f1 fd1 ["_law_script", "_law_at"] (spDrawn K)) (bG1 : Binds K fd1 ["_law_script", "_law_at"] []) (kG1 : PySem.W.keepIn K (.ref f1) = true) (mG1 : mg "_law_drawn" = some (.ref f1))
    (G2 : FnOk P w K mg base CX0 7 f2 fd2 ["_law_net", "_law_step"] (spLRef K)) (bG2 : Binds K fd2 ["_law_net", "_law_step"] []) (kG2 : PySem.W.keepIn K (.ref f2) = true) (mG2 : mg "_law_refused" = some (.ref f2))
    (G3 : FnOk P w K mg base CX0 3 f3 fd3 ["_law_net", "_law_ties", "_law_big_here"] spThing) (bG3 : Binds K fd3 ["_law_net", "_law_ties", "_law_big_here"] []) (kG3 : PySem.W.keepIn K (.ref f3) = true) (mG3 : mg "_law_thing" = some (.ref f3))
    (G4 : FnOk P w K mg base CX0 3 f4 fd4 ["_law_net", "_law_big_here"] spTiesBy) (bG4 : Binds K fd4 ["_law_net", "_law_big_here"] []) (kG4 : PySem.W.keepIn K (.ref f4) = true) (mG4 : mg "_law_ties_by" = some (.ref f4))
    (G5 : FnOk P w K mg base CX0 2 f5 fd5 ["_law_script", "_law_at"] (spBig K)) (bG5 : Binds K fd5 ["_law_script", "_law_at"] []) (kG5 : PySem.W.keepIn K (.ref f5) = true) (mG5 : mg "_law_big" = some (.ref f5))
    (ml : mg "len" = none) (mr : mg "range" = none) (mmi : mg "min" = none) (mma : mg "max" = none) (mL : mg "list" = none) (mrep : mg "repr" = none) : FnOk P w K mg base CX0 8 f fd ["_law_script"] (spLaw K) := by
  refine F.ok scLaw (fun vs H Q E h => ?_) (fun cdv A outer s H vs Q E hr h => ?_)
  · obtain ⟨a, ns, rfl, _⟩ := h
    rfl
  obtain ⟨a, ns, rfl, hS, hn, q⟩ := h
  have hr2 := hr.mono (j := 2) (by decide)
  have hr3 := hr.mono (j := 3) (by decide)
  have hr7 := hr.mono (j := 7) (by decide)
  refine ⟨_, (pss_cons (ps_set (i := 1) scLaw.nd rfl (Or.inl rfl) (pe_call G1 hr3 rfl mG1 kG1 bG1 .nil pass0 (pa_cons (pv 0) (pa_cons pe_int pa_nil)))) (pss_cons (ps_cut (LW a H) (ps_if (pt_cmpR (op_eqD (room64 hr)) (pv 1) (pe_lst pa_nil) (nomark _)) (pss_one (ps_set (i := 1) scLaw.nd rfl (Or.inl rfl) (pe_lst (pa_cons (pe_tup (pa_cons pe_str (pa_cons pe_str (pa_cons pe_str pa_nil)))) pa_nil)))) pss_nil)) (pss_cons (ps_for PassesOwn.never rfl (pi_range1 rfl mr (pa_cons (pe_callB (call_max2 rfl) rfl mma boot_max' (pa_cons pe_int (pa_cons (pe_callB (call_min2 rfl) rfl mmi boot_min' (pa_cons pe_int (pa_cons (pe_op op_sub (pe_callB call_len_seq rfl ml PySem.boot_len (pa_cons (pv 0) pa_nil)) pe_int) pa_nil))) pa_nil))) pa_nil)) (pg_name (i := 2) scLaw.nd rfl (Or.inl rfl)) (pss_cons (ps_set (i := 3) scLaw.nd rfl (Or.inl rfl) (pe_call G5 hr2 rfl mG5 kG5 bG5 .nil pass0 (pa_cons (pv 0) (pa_cons (pe_op op_add pe_int (pv 2)) pa_nil)))) (pss_cons (ps_set (i := 4) scLaw.nd rfl (Or.inl rfl) (pe_call G3 hr3 rfl mG3 kG3 bG3 .nil pass0 (pa_cons (pv 1) (pa_cons (PE.imp (t' := tTB) (pe_orL (pe_call G4 hr3 rfl mG4 kG4 bG4 .nil pass0 (pa_cons (pv 1) (pa_cons (pe_op op_fdiv (pv 3) pe_int) pa_nil))) (pe_one (pe_lst (pa_cons (pe_ix ix_tup (pe_ix ix_list (pv 1) pe_int (fun _ _ => rfl)) pe_int (fun _ _ => rfl)) pa_nil)))) ?orr) (pa_cons (pe_op op_mod (pv 3) pe_int) pa_nil))))) (pss_cons (ps_set (i := 5) scLaw.nd rfl (Or.inl rfl) (pe_callTy call_list_of rfl mL boot_list' (pa_cons (pv 1) pa_nil))) (pss_cons (ps_set (i := 6) scLaw.nd rfl (Or.inl rfl) (pe_callB (call_repr hr) rfl mrep boot_repr' (pa_cons (pv 4) pa_nil))) (pss_one (ps_if (PW.pt (pw_or (pt_not (pt_val (pe_call G2 hr7 rfl mG2 kG2 bG2 .nil pass0 (pa_cons (pv 5) (pa_cons (pv 4) pa_nil))))) (pw_or (pt_cmpR (op_neD (room64 hr)) (pv 5) (pv 1) (nomark _)) (pw_or1 (pt_cmpR op_ne (pe_callB (call_repr hr) rfl mrep boot_repr' (pa_cons (pv 4) pa_nil)) (pv 6) (nomark _)))))) (pss_one (ps_ret pe_bl)) pss_nil))))))) (pss_one (ps_ret pe_bl))))), ?_⟩
  try dsimp only [Cx.wish, cxOf]
  case orr =>
    rintro σ H' Q' ⟨p, net, b, h1, h3, nt, hl, tx, nz, q'⟩
    refine ⟨_, h1, _, h3, _, _, rfl, rfl, ⟨by decide, by decide⟩, p, net, _, rfl, nt, hl, tx, nz, fun r ss H5 e5 r0 hss rs sub => ?_⟩
    refine ⟨_, .inl ⟨_, SqL.of hss, rfl⟩, ite2 (fun c => ?_) (fun c => ?_)⟩
    · obtain ⟨last, ts⟩ := tis_of tx hl rs sub (fun z => by rw [z] at c; cases c)
      exact q' r ss last H5 e5 hss ts
    · obtain ⟨as, hp, pr⟩ := id nt
      obtain ⟨t0, r0', en0⟩ : ∃ t r, net = t :: r := by
        cases net with
        | nil => exact absurd rfl nz
        | cons t r => exact ⟨t, r, rfl⟩
      subst en0
      cases pr with
      | cons h0 hr0 =>
        refine ⟨_, h1, _, _, _, _, rfl, rfl, SqL.of (e5 _ _ hp), (by exact atI_nat (j := 0) rfl), _, _, _, _, rfl, rfl, SqT.of (e5 _ _ h0), (by exact atI_nat (j := 0) rfl), (by show 1 ≤ sizeLine; decide), fun L hL => ?_⟩
        have nm0 := (tx t0 List.mem_cons_self).1
        exact q' L [t0.1] t0.1 _ (e5.trans (Ext.new hL _)) upd_same ⟨by show 1 ≤ 12; decide, fun s hs => by rw [List.mem_singleton] at hs; rw [hs]; exact nm0, List.pairwise_singleton _ _, [], rfl⟩
  refine ⟨_, rfl, a, ns, rfl, hS, fun p net H1 e1 p0 nt hl tx => ?_⟩
  refine ⟨?_, ?_⟩
  · refine ⟨_, rfl, Nat.zero_le _, fun l0 hl0 => ?_⟩
    have X0 := Ext.new hl0 (.lst [])
    refine ⟨_, _, dr_net (nt.ext X0), dr_nil upd_same, shaped_net tx, shaped_nil, _, rfl, ?_⟩
    rw [show (if false = true then !PyData.eqv (netD net) (.list []) else PyData.eqv (netD net) (.list [])) = decide (net = []) from eqv_net_nil net]
    refine ite2 (fun c => ?_) (fun c => ?_)
    · refine ⟨(by show 3 ≤ sizeLine; decide), fun T hT => ⟨(by show 1 ≤ sizeLine; decide), fun L hL => ?_⟩⟩
      have X1 := Ext.new hT (.tup (trV ("a", "b", "c")))
      have X2 := Ext.new hL (.lst [V.ref T])
      exact ⟨L, [("a", "b", "c")], rfl, e1.trans (X0.trans (X1.trans X2)), ⟨[T], upd_same, .cons (X2 _ _ upd_same) .nil⟩, by decide, tx_abc, by simp⟩
    · exact ⟨p, net, rfl, e1.trans X0, nt.ext X0, hl, tx, fun z => c (decide_eq_true z)⟩
  rintro σ H2 ⟨p, net, rfl, E1, nt1, hl, tx, nz⟩
  refine ⟨_, rfl, a, _, rfl, .inl (E1.sqL hS), _, _, rfl, rfl, _, _, rfl, _, _, rfl, ?_⟩
  obtain ⟨m, hm, m1, m8⟩ : ∃ m : Int, (if (if (((ns.map V.int).length : Nat) : Int) - 2 < 8 then (((ns.map V.int).length : Nat) : Int) - 2 else 8) > 1 then (if (((ns.map V.int).length : Nat) : Int) - 2 < 8 then (((ns.map V.int).length : Nat) : Int) - 2 else 8) else 1) = m ∧ 1 ≤ m ∧ m ≤ 8 := ⟨_, rfl, by split <;> omega, by split <;> (try split) <;> omega⟩
  rw [hm]
  refine ⟨m, rfl, by omega, by omega, ?_⟩
  refine for_range (lo := 0) (n := m.toNat) (fun i σ H' => ∃ x2 x3 x4 x5 x6 : Option V, σ = [some (.ref a), some (.ref p), x2, x3, x4, x5, x6] ∧ Ext H2 H') ⟨_, _, _, _, _, rfl, Ext.refl _⟩ ?_ ?_
  · rintro i σ H' hi ⟨x2, x3, x4, x5, x6, rfl, e2⟩
    refine ⟨_, rfl, _, rfl, _, _, rfl, rfl, a, ns, _, rfl, (E1.trans e2).sqL hS, by omega, by omega, fun v H3 e3 => ?_⟩
    have e4 := e2.trans e3
    obtain ⟨as, hp, pr⟩ := id nt1
    refine ⟨_, rfl, p, net, v, rfl, rfl, nt1.ext e4, hl, tx, nz, fun tp ss last H5 e5 hss ts => ?_⟩
    have e6 := e4.trans e5
    refine ⟨_, rfl, _, _, rfl, rfl, (by show (0 : Int) < _; decide), p, tp, net, ss, last, _, rfl, nt1.ext e6, hl, tx, nz, hss, ts, fun th D H7 e7 dh gd => ?_⟩
    have e8 := e6.trans e7
    refine ⟨_, rfl, p, _, rfl, .inl (SqL.of (e8 _ _ hp)), fun ha hha => ?_⟩
    have X := Ext.new hha (.lst (as.map V.ref))
    have e9 := e8.trans X
    have ncp : NetAt (upd H7 ha (.lst (as.map V.ref))) ha net := NetAt.copy (p := p) pr e9 upd_same
    have dh9 := dh.ext X
    have nt9 := nt1.ext e9
    revert e9 ncp dh9 nt9
    generalize upd H7 ha (.lst (as.map V.ref)) = H9
    intro e9 ncp dh9 nt9
    have rok : RpOk D := gd.2.1.ok (by decide) (Nat.le_trans gd.2.2 (by decide))
    refine ⟨_, rfl, th, D, rfl, dh9.dr, rok, ?_⟩
    refine ⟨_, rfl, _, rfl, ha, net, th, rfl, ncp, hl, stepN_of dh9 gd.1, fun H10 e10 => ⟨true, rfl, iteF ?_⟩⟩
    refine ⟨_, rfl, _, rfl, _, _, dr_net (ncp.ext e10), dr_net (nt9.ext e10), shaped_net tx, shaped_net tx, _, rfl, ?_⟩
    rw [eqN_net]
    refine iteF ?_
    refine ⟨_, rfl, th, D, rfl, (dh9.ext e10).dr, rok, _, rfl, rfl, _, rfl, ?_⟩
    refine ite2 (fun c => ?_) (fun c => ?_)
    · exact absurd c (by simp)
    · exact ⟨_, _, _, _, _, rfl, e9.trans e10⟩
  · rintro σ H' ⟨x2, x3, x4, x5, x6, rfl, e2⟩
    exact q _
end
end My
namespace My
open PySem L2
theorem zl1 {α : Type} {l : List α} (h : l.length = 1) : ∃ a, l = [a] := match l, h with | [a], _ => ⟨a, rfl⟩
theorem zl2 {α : Type} {l : List α} (h : l.length = 2) : ∃ a b, l = [a, b] := match l, h with | [a, b], _ => ⟨a, b, rfl⟩
theorem zl3 {α : Type} {l : List α} (h : l.length = 3) : ∃ a b c, l = [a, b, c] := match l, h with | [a, b, c], _ => ⟨a, b, c, rfl⟩
theorem zl4 {α : Type} {l : List α} (h : l.length = 4) : ∃ a b c d, l = [a, b, c, d] := match l, h with | [a, b, c, d], _ => ⟨a, b, c, d, rfl⟩
theorem own_in {K : PySem.W.Frag} {h : Heap} {mg : Str → Option Value} {x : Str} {C : Addr} {bm0 : List Value} {newId : String} (X : K.In h) (G : h.Ns mainGlobals mg) (e : PySem.W.nsIn K mainGlobals x = some (some (.ref C))) (q : PySem.W.excIn K C bm0 newId = true) : PyProof.Rows.OwnCls x C bm0 newId mg h := by
  refine ⟨PySem.W.mg_of X G e, ?_⟩
  unfold PySem.W.excIn at q
  split at q
  · rename_i dd cd sl ho
    split at q
    · rename_i C' bm k0 k1 k2 k3 n k5 hm hs
      simp only [Bool.and_eq_true, beq_iff_eq, Bool.not_eq_true'] at q
      obtain ⟨⟨⟨⟨⟨rfl, rfl⟩, hdel⟩, ht⟩, hok⟩, hni⟩ := q
      obtain ⟨nm, bs, mro, ns, qn, hd, sn, sub, ab, col, del⟩ := cd
      dsimp only at hm hdel hok hni
      subst hm hdel
      obtain ⟨l⟩ := sl
      simp only at hs
      subst hs
      exact ⟨bm, ns, nm, qn, bs, hd, sn, sub, ab, col, dd, k0, k1, k2, k3, k5, _, X _ _ ho, .of_isNs (PySem.W.isNs_of_in X hok), PySem.W.nsMap_none_of_in X hok hni, PySem.W.tail_of_in X ht⟩
    · cases q
  · cases q
set_option maxHeartbeats 16000000 in
theorem all_mk {l : PySem.W.OpenLaw} {w : World} {K : PySem.W.Frag} {h : Heap} {mg : Str → Option Value} {fa f1 f2 f3 f4 f5 f6 f7 f8 f9 f10 f11 f12 f13 f14 f15 f16 f17 f18 f19 f20 f21 f22 f23 f24 : Addr} {tk_SIGNS tk_MOST_SIGNS : Tok} (X : K.In h) (G : h.Ns mainGlobals mg) (hfa : mg "law" = some (.ref fa))
    {od1 an1 od2 an2 od3 an3 od4 an4 od5 an5 od6 an6 od7 an7 od8 an8 od9 an9 od10 an10 od11 an11 od12 an12 od13 an13 od14 an14 od15 an15 od16 an16 od17 an17 od18 an18 od19 an19 od20 an20 od21 an21 od22 an22 od23 an23 od24 an24 : Option Addr} {sl1 sl2 sl3 sl4 sl5 sl6 sl7 sl8 sl9 sl10 sl11 sl12 sl13 sl14 sl15 sl16 sl17 sl18 sl19 sl20 sl21 sl22 sl23 sl24 : Array (Option Value)} {oc1 kV1 dc1 pm1 cd1 ct1 oc2 kV2 dc2 pm2 cd2 ct2 oc3 kV3 dc3 pm3 cd3 ct3 oc4 kV4 dc4 pm4 cd4 ct4 oc5 kV5 dc5 pm5 cd5 ct5 oc6 kV6 dc6 pm6 cd6 ct6 oc7 kV7 dc7 pm7 cd7 ct7 oc8 kV8 dc8 pm8 cd8 ct8 oc9 kV9 dc9 pm9 cd9 ct9 oc10 kV10 dc10 pm10 cd10 ct10 oc11 kV11 dc11 pm11 cd11 ct11 oc12 kV12 dc12 pm12 cd12 ct12 oc13 kV13 dc13 pm13 cd13 ct13 oc14 kV14 dc14 pm14 cd14 ct14 oc15 kV15 dc15 pm15 cd15 ct15 oc16 kV16 dc16 pm16 cd16 ct16 oc17 kV17 dc17 pm17 cd17 ct17 oc18 kV18 dc18 pm18 cd18 ct18 oc19 kV19 dc19 pm19 cd19 ct19 oc20 kV20 dc20 pm20 cd20 ct20 oc21 kV21 dc21 pm21 cd21 ct21 oc22 kV22 dc22 pm22 cd22 ct22 oc23 kV23 dc23 pm23 cd23 ct23 oc24 kV24 dc24 pm24 cd24 ct24 : Value}
    {C R e1 e2 e3 : Addr} {cdC : ClassData}
    (a1 : PySem.W.nsIn K mainGlobals "is_name" = some (some (.ref f1))) (l1 : K.lookup f1 = some ⟨oc1, od1, .func (PySem.W.fnOf "is_name" "is_name" (defArgs sName) (defBody sName) (defScope sName) .none kV1 dc1 pm1 an1 cd1 ct1), sl1⟩) (c1 : PySem.W.codeIn K cd1 "is_name" = true) (k1 : PySem.W.keepIn K (.ref f1) = true)
    (a2 : PySem.W.nsIn K mainGlobals "is_row" = some (some (.ref f2))) (l2 : K.lookup f2 = some ⟨oc2, od2, .func (PySem.W.fnOf "is_row" "is_row" (defArgs sIsRow) (defBody sIsRow) (defScope sIsRow) .none kV2 dc2 pm2 an2 cd2 ct2), sl2⟩) (c2 : PySem.W.codeIn K cd2 "is_row" = true) (k2 : PySem.W.keepIn K (.ref f2) = true)
    (a3 : PySem.W.nsIn K mainGlobals "points" = some (some (.ref f3))) (l3 : K.lookup f3 = some ⟨oc3, od3, .func (PySem.W.fnOf "points" "points" (defArgs sPoints) (defBody sPoints) (defScope sPoints) .none kV3 dc3 pm3 an3 cd3 ct3), sl3⟩) (c3 : PySem.W.codeIn K cd3 "points" = true) (k3 : PySem.W.keepIn K (.ref f3) = true)
    (a4 : PySem.W.nsIn K mainGlobals "homes" = some (some (.ref f4))) (l4 : K.lookup f4 = some ⟨oc4, od4, .func (PySem.W.fnOf "homes" "homes" (defArgs sHomes) (defBody sHomes) (defScope sHomes) .none kV4 dc4 pm4 an4 cd4 ct4), sl4⟩) (c4 : PySem.W.codeIn K cd4 "homes" = true) (k4 : PySem.W.keepIn K (.ref f4) = true)
    (a5 : PySem.W.nsIn K mainGlobals "are_ties" = some (some (.ref f5))) (l5 : K.lookup f5 = some ⟨oc5, od5, .func (PySem.W.fnOf "are_ties" "are_ties" (defArgs sAre) (defBody sAre) (defScope sAre) .none kV5 dc5 pm5 an5 cd5 ct5), sl5⟩) (c5 : PySem.W.codeIn K cd5 "are_ties" = true) (k5 : PySem.W.keepIn K (.ref f5) = true)
    (a6 : PySem.W.nsIn K mainGlobals "turned" = some (some (.ref f6))) (l6 : K.lookup f6 = some ⟨oc6, od6, .func (PySem.W.fnOf "turned" "turned" (defArgs sTurned) (defBody sTurned) (defScope sTurned) .none kV6 dc6 pm6 an6 cd6 ct6), sl6⟩) (c6 : PySem.W.codeIn K cd6 "turned" = true) (k6 : PySem.W.keepIn K (.ref f6) = true)
    (a7 : PySem.W.nsIn K mainGlobals "set_apart" = some (some (.ref f7))) (l7 : K.lookup f7 = some ⟨oc7, od7, .func (PySem.W.fnOf "set_apart" "set_apart" (defArgs sSetApart) (defBody sSetApart) (defScope sSetApart) .none kV7 dc7 pm7 an7 cd7 ct7), sl7⟩) (c7 : PySem.W.codeIn K cd7 "set_apart" = true) (k7 : PySem.W.keepIn K (.ref f7) = true)
    (a8 : PySem.W.nsIn K mainGlobals "laid_together" = some (some (.ref f8))) (l8 : K.lookup f8 = some ⟨oc8, od8, .func (PySem.W.fnOf "laid_together" "laid_together" (defArgs sLaid) (defBody sLaid) (defScope sLaid) .none kV8 dc8 pm8 an8 cd8 ct8), sl8⟩) (c8 : PySem.W.codeIn K cd8 "laid_together" = true) (k8 : PySem.W.keepIn K (.ref f8) = true)
    (a9 : PySem.W.nsIn K mainGlobals "tried" = some (some (.ref f9))) (l9 : K.lookup f9 = some ⟨oc9, od9, .func (PySem.W.fnOf "tried" "tried" (defArgs sTried) (defBody sTried) (defScope sTried) .none kV9 dc9 pm9 an9 cd9 ct9), sl9⟩) (c9 : PySem.W.codeIn K cd9 "tried" = true) (k9 : PySem.W.keepIn K (.ref f9) = true)
    (a10 : PySem.W.nsIn K mainGlobals "step_done" = some (some (.ref f10))) (l10 : K.lookup f10 = some ⟨oc10, od10, .func (PySem.W.fnOf "step_done" "step_done" (defArgs sDone) (defBody sDone) (defScope sDone) .none kV10 dc10 pm10 an10 cd10 ct10), sl10⟩) (c10 : PySem.W.codeIn K cd10 "step_done" = true) (k10 : PySem.W.keepIn K (.ref f10) = true)
    (a11 : PySem.W.nsIn K mainGlobals "_law_cell_at" = some (some (.ref f11))) (l11 : K.lookup f11 = some ⟨oc11, od11, .func (PySem.W.fnOf "_law_cell_at" "_law_cell_at" (defArgs sCell) (defBody sCell) (defScope sCell) .none kV11 dc11 pm11 an11 cd11 ct11), sl11⟩) (c11 : PySem.W.codeIn K cd11 "_law_cell_at" = true) (k11 : PySem.W.keepIn K (.ref f11) = true)
    (a12 : PySem.W.nsIn K mainGlobals "_law_big" = some (some (.ref f12))) (l12 : K.lookup f12 = some ⟨oc12, od12, .func (PySem.W.fnOf "_law_big" "_law_big" (defArgs sBig) (defBody sBig) (defScope sBig) .none kV12 dc12 pm12 an12 cd12 ct12), sl12⟩) (c12 : PySem.W.codeIn K cd12 "_law_big" = true) (k12 : PySem.W.keepIn K (.ref f12) = true)
    (a13 : PySem.W.nsIn K mainGlobals "_law_names" = some (some (.ref f13))) (l13 : K.lookup f13 = some ⟨oc13, od13, .func (PySem.W.fnOf "_law_names" "_law_names" (defArgs sNames) (defBody sNames) (defScope sNames) .none kV13 dc13 pm13 an13 cd13 ct13), sl13⟩) (c13 : PySem.W.codeIn K cd13 "_law_names" = true) (k13 : PySem.W.keepIn K (.ref f13) = true)
    (a14 : PySem.W.nsIn K mainGlobals "_law_joined" = some (some (.ref f14))) (l14 : K.lookup f14 = some ⟨oc14, od14, .func (PySem.W.fnOf "_law_joined" "_law_joined" (defArgs sJoined) (defBody sJoined) (defScope sJoined) .none kV14 dc14 pm14 an14 cd14 ct14), sl14⟩) (c14 : PySem.W.codeIn K cd14 "_law_joined" = true) (k14 : PySem.W.keepIn K (.ref f14) = true)
    (a15 : PySem.W.nsIn K mainGlobals "_law_net_by" = some (some (.ref f15))) (l15 : K.lookup f15 = some ⟨oc15, od15, .func (PySem.W.fnOf "_law_net_by" "_law_net_by" (defArgs sNetBy) (defBody sNetBy) (defScope sNetBy) .none kV15 dc15 pm15 an15 cd15 ct15), sl15⟩) (c15 : PySem.W.codeIn K cd15 "_law_net_by" = true) (k15 : PySem.W.keepIn K (.ref f15) = true)
    (a16 : PySem.W.nsIn K mainGlobals "_law_drawn" = some (some (.ref f16))) (l16 : K.lookup f16 = some ⟨oc16, od16, .func (PySem.W.fnOf "_law_drawn" "_law_drawn" (defArgs sDrawn) (defBody sDrawn) (defScope sDrawn) .none kV16 dc16 pm16 an16 cd16 ct16), sl16⟩) (c16 : PySem.W.codeIn K cd16 "_law_drawn" = true) (k16 : PySem.W.keepIn K (.ref f16) = true)
    (a17 : PySem.W.nsIn K mainGlobals "_law_all_ends" = some (some (.ref f17))) (l17 : K.lookup f17 = some ⟨oc17, od17, .func (PySem.W.fnOf "_law_all_ends" "_law_all_ends" (defArgs sAllEnds) (defBody sAllEnds) (defScope sAllEnds) .none kV17 dc17 pm17 an17 cd17 ct17), sl17⟩) (c17 : PySem.W.codeIn K cd17 "_law_all_ends" = true) (k17 : PySem.W.keepIn K (.ref f17) = true)
    (a18 : PySem.W.nsIn K mainGlobals "_law_points" = some (some (.ref f18))) (l18 : K.lookup f18 = some ⟨oc18, od18, .func (PySem.W.fnOf "_law_points" "_law_points" (defArgs sLPts) (defBody sLPts) (defScope sLPts) .none kV18 dc18 pm18 an18 cd18 ct18), sl18⟩) (c18 : PySem.W.codeIn K cd18 "_law_points" = true) (k18 : PySem.W.keepIn K (.ref f18) = true)
    (a19 : PySem.W.nsIn K mainGlobals "_law_come_to" = some (some (.ref f19))) (l19 : K.lookup f19 = some ⟨oc19, od19, .func (PySem.W.fnOf "_law_come_to" "_law_come_to" (defArgs sCome) (defBody sCome) (defScope sCome) .none kV19 dc19 pm19 an19 cd19 ct19), sl19⟩) (c19 : PySem.W.codeIn K cd19 "_law_come_to" = true) (k19 : PySem.W.keepIn K (.ref f19) = true)
    (a20 : PySem.W.nsIn K mainGlobals "_law_ties_by" = some (some (.ref f20))) (l20 : K.lookup f20 = some ⟨oc20, od20, .func (PySem.W.fnOf "_law_ties_by" "_law_ties_by" (defArgs sTiesBy) (defBody sTiesBy) (defScope sTiesBy) .none kV20 dc20 pm20 an20 cd20 ct20), sl20⟩) (c20 : PySem.W.codeIn K cd20 "_law_ties_by" = true) (k20 : PySem.W.keepIn K (.ref f20) = true)
    (a21 : PySem.W.nsIn K mainGlobals "_law_refused" = some (some (.ref f21))) (l21 : K.lookup f21 = some ⟨oc21, od21, .func (PySem.W.fnOf "_law_refused" "_law_refused" (defArgs sLRef) (defBody sLRef) (defScope sLRef) .none kV21 dc21 pm21 an21 cd21 ct21), sl21⟩) (c21 : PySem.W.codeIn K cd21 "_law_refused" = true) (k21 : PySem.W.keepIn K (.ref f21) = true)
    (a22 : PySem.W.nsIn K mainGlobals "_law_odd_ties" = some (some (.ref f22))) (l22 : K.lookup f22 = some ⟨oc22, od22, .func (PySem.W.fnOf "_law_odd_ties" "_law_odd_ties" (defArgs sOddT) (defBody sOddT) (defScope sOddT) .none kV22 dc22 pm22 an22 cd22 ct22), sl22⟩) (c22 : PySem.W.codeIn K cd22 "_law_odd_ties" = true) (k22 : PySem.W.keepIn K (.ref f22) = true)
    (a23 : PySem.W.nsIn K mainGlobals "_law_thing" = some (some (.ref f23))) (l23 : K.lookup f23 = some ⟨oc23, od23, .func (PySem.W.fnOf "_law_thing" "_law_thing" (defArgs sThing) (defBody sThing) (defScope sThing) .none kV23 dc23 pm23 an23 cd23 ct23), sl23⟩) (c23 : PySem.W.codeIn K cd23 "_law_thing" = true) (k23 : PySem.W.keepIn K (.ref f23) = true)
    (a24 : PySem.W.nsIn K mainGlobals "law" = some (some (.ref f24))) (l24 : K.lookup f24 = some ⟨oc24, od24, .func (PySem.W.fnOf "law" "law" (defArgs sLaw) (defBody sLaw) (defScope sLaw) .none kV24 dc24 pm24 an24 cd24 ct24), sl24⟩) (c24 : PySem.W.codeIn K cd24 "law" = true) (k24 : PySem.W.keepIn K (.ref f24) = true)
    (q1 : PySem.W.nsIn K mainGlobals "SIGNS" = some (some (.str sg tk_SIGNS)))
    (q2 : PySem.W.nsIn K mainGlobals "MOST_SIGNS" = some (some (.int 6 tk_MOST_SIGNS)))
    (z1 : PySem.W.nsIn K mainGlobals "range" = some none)
    (z2 : PySem.W.nsIn K mainGlobals "len" = some none)
    (z3 : PySem.W.nsIn K mainGlobals "list" = some none)
    (z4 : PySem.W.nsIn K mainGlobals "sorted" = some none)
    (z5 : PySem.W.nsIn K mainGlobals "min" = some none)
    (z6 : PySem.W.nsIn K mainGlobals "max" = some none)
    (z7 : PySem.W.nsIn K mainGlobals "int" = some none)
    (z8 : PySem.W.nsIn K mainGlobals "set" = some none)
    (z9 : PySem.W.nsIn K mainGlobals "enumerate" = some none)
    (z10 : PySem.W.nsIn K mainGlobals "isinstance" = some none)
    (z11 : PySem.W.nsIn K mainGlobals "str" = some none)
    (z12 : PySem.W.nsIn K mainGlobals "all" = some none)
    (z13 : PySem.W.nsIn K mainGlobals "zip" = some none)
    (z14 : PySem.W.nsIn K mainGlobals "tuple" = some none)
    (z15 : PySem.W.nsIn K mainGlobals "ValueError" = some none)
    (z16 : PySem.W.nsIn K mainGlobals "repr" = some none)
    (y1 : PySem.W.nsIn K mainGlobals "NoStep" = some (some (.ref C))) (y2 : PySem.W.excIn K C vB "ValueError.__new__" = true) (y3 : PySem.W.nsIn K mainGlobals "RoundError" = some (some (.ref R))) (y4 : PySem.W.exmOne K (.ref C) (.ref R) = some true) (y5 : PySem.W.kitOne K (.ref C) (.type "ValueError") = some true)
    (x1 : PySem.W.clsIn K C = some cdC) (x2 : PySem.W.findIn K (.ref C) "__getattribute__" = some (some (.builtin "BaseException.__getattribute__"))) (x3 : PySem.W.findIn K (.ref C) "__getattr__" = some none) (x4 : PySem.W.findIn K (.ref C) "__class__" = some (some (.builtin "object.__class__")))
    (x5 : PySem.W.specialIn K (.builtin "object.__class__") "__get__" = some (some (.builtin "getset_descriptor.__get__"))) (x6 : PySem.W.takesIn K (.builtin "object.__class__") = some true) (x7 : PySem.W.mroIn K C (.type "object") = some true) (x8 : PySem.W.mroIn K C (.type "BaseException") = some true)
    (v1 : PySem.W.nsIn K mainGlobals "NoNet" = some (some (.ref e1))) (w1 : PySem.W.kitOne K (.ref C) (.ref e1) = some false)
    (v2 : PySem.W.nsIn K mainGlobals "NoTie" = some (some (.ref e2))) (w2 : PySem.W.kitOne K (.ref C) (.ref e2) = some false)
    (v3 : PySem.W.nsIn K mainGlobals "NoMatch" = some (some (.ref e3))) (w3 : PySem.W.kitOne K (.ref C) (.ref e3) = some false)
    : ∃ fd : FuncData, (∀ (s : Shared) (v : Value), BindsTo s fd ⟨[v], []⟩ [("_law_script", v)]) ∧ ∀ base : Heap, K.In base → base.Ns mainGlobals mg → FnOk l.prog w K mg base CX0 8 fa fd ["_law_script"] (spLaw K) := by
  have e := hfa.symm.trans (PySem.W.mg_of X G a24)
  cases e
  have F1 := fun_mk (st := sName) l1 c1 k1
  have F2 := fun_mk (st := sIsRow) l2 c2 k2
  have F3 := fun_mk (st := sPoints) l3 c3 k3
  have F4 := fun_mk (st := sHomes) l4 c4 k4
  have F5 := fun_mk (st := sAre) l5 c5 k5
  have F6 := fun_mk (st := sTurned) l6 c6 k6
  have F7 := fun_mk (st := sSetApart) l7 c7 k7
  have F8 := fun_mk (st := sLaid) l8 c8 k8
  have F9 := fun_mk (st := sTried) l9 c9 k9
  have F10 := fun_mk (st := sDone) l10 c10 k10
  have F11 := fun_mk (st := sCell) l11 c11 k11
  have F12 := fun_mk (st := sBig) l12 c12 k12
  have F13 := fun_mk (st := sNames) l13 c13 k13
  have F14 := fun_mk (st := sJoined) l14 c14 k14
  have F15 := fun_mk (st := sNetBy) l15 c15 k15
  have F16 := fun_mk (st := sDrawn) l16 c16 k16
  have F17 := fun_mk (st := sAllEnds) l17 c17 k17
  have F18 := fun_mk (st := sLPts) l18 c18 k18
  have F19 := fun_mk (st := sCome) l19 c19 k19
  have F20 := fun_mk (st := sTiesBy) l20 c20 k20
  have F21 := fun_mk (st := sLRef) l21 c21 k21
  have F22 := fun_mk (st := sOddT) l22 c22 k22
  have F23 := fun_mk (st := sThing) l23 c23 k23
  have F24 := fun_mk (st := sLaw) l24 c24 k24
  have b1 := F1.binds (ps := ["thing"]) fun _ _ _ _ _ _ us hl => by obtain ⟨_, rfl⟩ := zl1 hl; rfl
  have m1 := PySem.W.mg_of X G a1
  have b2 := F2.binds (ps := ["thing"]) fun _ _ _ _ _ _ us hl => by obtain ⟨_, rfl⟩ := zl1 hl; rfl
  have m2 := PySem.W.mg_of X G a2
  have b3 := F3.binds (ps := ["net"]) fun _ _ _ _ _ _ us hl => by obtain ⟨_, rfl⟩ := zl1 hl; rfl
  have m3 := PySem.W.mg_of X G a3
  have b4 := F4.binds (ps := ["net"]) fun _ _ _ _ _ _ us hl => by obtain ⟨_, rfl⟩ := zl1 hl; rfl
  have m4 := PySem.W.mg_of X G a4
  have b5 := F5.binds (ps := ["net", "thing"]) fun _ _ _ _ _ _ us hl => by obtain ⟨_, _, rfl⟩ := zl2 hl; rfl
  have m5 := PySem.W.mg_of X G a5
  have b6 := F6.binds (ps := ["net", "ties"]) fun _ _ _ _ _ _ us hl => by obtain ⟨_, _, rfl⟩ := zl2 hl; rfl
  have m6 := PySem.W.mg_of X G a6
  have b7 := F7.binds (ps := ["net", "point", "ties", "new"]) fun _ _ _ _ _ _ us hl => by obtain ⟨_, _, _, _, rfl⟩ := zl4 hl; rfl
  have m7 := PySem.W.mg_of X G a7
  have b8 := F8.binds (ps := ["net", "point", "other"]) fun _ _ _ _ _ _ us hl => by obtain ⟨_, _, _, rfl⟩ := zl3 hl; rfl
  have m8 := PySem.W.mg_of X G a8
  have b9 := F9.binds (ps := ["net", "step"]) fun _ _ _ _ _ _ us hl => by obtain ⟨_, _, rfl⟩ := zl2 hl; rfl
  have m9 := PySem.W.mg_of X G a9
  have b10 := F10.binds (ps := ["net", "step"]) fun _ _ _ _ _ _ us hl => by obtain ⟨_, _, rfl⟩ := zl2 hl; rfl
  have m10 := PySem.W.mg_of X G a10
  have b11 := F11.binds (ps := ["_law_script", "_law_k"]) fun _ _ _ _ _ _ us hl => by obtain ⟨_, _, rfl⟩ := zl2 hl; rfl
  have m11 := PySem.W.mg_of X G a11
  have b12 := F12.binds (ps := ["_law_script", "_law_at"]) fun _ _ _ _ _ _ us hl => by obtain ⟨_, _, rfl⟩ := zl2 hl; rfl
  have m12 := PySem.W.mg_of X G a12
  have b13 := F13.binds (ps := ["_law_stem", "_law_many"]) fun _ _ _ _ _ _ us hl => by obtain ⟨_, _, rfl⟩ := zl2 hl; rfl
  have m13 := PySem.W.mg_of X G a13
  have b14 := F14.binds (ps := ["_law_piece", "_law_one", "_law_other"]) fun _ _ _ _ _ _ us hl => by obtain ⟨_, _, _, rfl⟩ := zl3 hl; rfl
  have m14 := PySem.W.mg_of X G a14
  have b15 := F15.binds (ps := ["_law_big_here", "_law_most", "_law_stem"]) fun _ _ _ _ _ _ us hl => by obtain ⟨_, _, _, rfl⟩ := zl3 hl; rfl
  have m15 := PySem.W.mg_of X G a15
  have b16 := F16.binds (ps := ["_law_script", "_law_at"]) fun _ _ _ _ _ _ us hl => by obtain ⟨_, _, rfl⟩ := zl2 hl; rfl
  have m16 := PySem.W.mg_of X G a16
  have b17 := F17.binds (ps := ["_law_net"]) fun _ _ _ _ _ _ us hl => by obtain ⟨_, rfl⟩ := zl1 hl; rfl
  have m17 := PySem.W.mg_of X G a17
  have b18 := F18.binds (ps := ["_law_net"]) fun _ _ _ _ _ _ us hl => by obtain ⟨_, rfl⟩ := zl1 hl; rfl
  have m18 := PySem.W.mg_of X G a18
  have b19 := F19.binds (ps := ["_law_net", "_law_tie", "_law_shut"]) fun _ _ _ _ _ _ us hl => by obtain ⟨_, _, _, rfl⟩ := zl3 hl; rfl
  have m19 := PySem.W.mg_of X G a19
  have b20 := F20.binds (ps := ["_law_net", "_law_big_here"]) fun _ _ _ _ _ _ us hl => by obtain ⟨_, _, rfl⟩ := zl2 hl; rfl
  have m20 := PySem.W.mg_of X G a20
  have b21 := F21.binds (ps := ["_law_net", "_law_step"]) fun _ _ _ _ _ _ us hl => by obtain ⟨_, _, rfl⟩ := zl2 hl; rfl
  have m21 := PySem.W.mg_of X G a21
  have b22 := F22.binds (ps := ["_law_ties", "_law_kind"]) fun _ _ _ _ _ _ us hl => by obtain ⟨_, _, rfl⟩ := zl2 hl; rfl
  have m22 := PySem.W.mg_of X G a22
  have b23 := F23.binds (ps := ["_law_net", "_law_ties", "_law_big_here"]) fun _ _ _ _ _ _ us hl => by obtain ⟨_, _, _, rfl⟩ := zl3 hl; rfl
  have m23 := PySem.W.mg_of X G a23
  have n_SIGNS := PySem.W.mg_of X G q1
  have n_MOST_SIGNS := PySem.W.mg_of X G q2
  have n_range := PySem.W.mg_none_of X G z1
  have n_len := PySem.W.mg_none_of X G z2
  have n_list := PySem.W.mg_none_of X G z3
  have n_sorted := PySem.W.mg_none_of X G z4
  have n_min := PySem.W.mg_none_of X G z5
  have n_max := PySem.W.mg_none_of X G z6
  have n_int := PySem.W.mg_none_of X G z7
  have n_set := PySem.W.mg_none_of X G z8
  have n_enumerate := PySem.W.mg_none_of X G z9
  have n_isinstance := PySem.W.mg_none_of X G z10
  have n_str := PySem.W.mg_none_of X G z11
  have n_all := PySem.W.mg_none_of X G z12
  have n_zip := PySem.W.mg_none_of X G z13
  have n_tuple := PySem.W.mg_none_of X G z14
  have n_ValueError := PySem.W.mg_none_of X G z15
  have n_repr := PySem.W.mg_none_of X G z16
  refine ⟨PySem.W.fnOf "law" "law" (defArgs sLaw) (defBody sLaw) (defScope sLaw) .none kV24 dc24 pm24 an24 cd24 ct24, fun s v => .of_eq rfl, fun base kb nb => ?_⟩
  have O := own_in kb nb y1 y2
  have Z : Refs K mg C R := ⟨⟨by rw [x1]; rfl, x2, x3, x4, x5, x6, x7, x8⟩, PySem.W.mg_of X G y3, y4, PySem.W.mg_of X G y1, n_ValueError, y5, n_isinstance, ⟨e1, PySem.W.mg_of X G v1, w1⟩, ⟨e2, PySem.W.mg_of X G v2, w2⟩, ⟨e3, PySem.W.mg_of X G v3, w3⟩⟩
  have g1 := ok_name (P := l.prog) (w := w) (base := base) F1  n_len n_isinstance n_str n_all n_SIGNS n_MOST_SIGNS
  have h1 := ok_nameN (P := l.prog) (w := w) (base := base) F1 n_isinstance n_str
  have g2 := ok_isrow (P := l.prog) (w := w) (base := base) F2 g1 b1 k1 m1 n_isinstance n_list n_all n_zip
  have g3 := ok_points (P := l.prog) (w := w) (base := base) F3  n_sorted
  have g4 := ok_homes (P := l.prog) (w := w) (base := base) F4 g3 b3 k3 m3 
  have g5 := ok_areN (P := l.prog) (w := w) (base := base) F5 g2 b2 k2 m2 
  have g6 := ok_turnN (P := l.prog) (w := w) (base := base) F6 g5 b5 k5 m5 n_len
  have g7 := ok_apartN (P := l.prog) (w := w) (base := base) F7 g5 b5 k5 m5 
  have g8 := ok_laidN (P := l.prog) (w := w) (base := base) F8 g4 b4 k4 m4 h1 b1 k1 m1
  have g9 := ok_triedN (P := l.prog) (w := w) (base := base) F9 g6 b6 k6 m6 g7 b7 k7 m7 g8 b8 k8 m8 n_len n_isinstance n_tuple
  have h10 := ok_doneN (P := l.prog) (w := w) (base := base) F10 PySem.F.excBase_ValueError PySem.F.excBase_ValueError O g9 b9 k9 m9
  have g11 := ok_cell (P := l.prog) (w := w) (base := base) F11  n_len
  have g12 := ok_big (P := l.prog) (w := w) (base := base) F12 g11 b11 k11 m11 n_range
  have g13 := ok_names (P := l.prog) (w := w) (base := base) F13  n_range
  have g14 := ok_joined (P := l.prog) (w := w) (base := base) F14  n_int
  have g15 := ok_netby (P := l.prog) (w := w) (base := base) F15 g13 b13 k13 m13 g14 b14 k14 m14 n_range n_len n_list n_int n_sorted
  have g16 := ok_drawn (P := l.prog) (w := w) (base := base) F16 g12 b12 k12 m12 g15 b15 k15 m15 
  have g17 := ok_allends (P := l.prog) (w := w) (mg := mg) (base := base) F17  
  have g18 := ok_lpts (P := l.prog) (w := w) (base := base) F18 g17 b17 k17 m17 n_sorted n_set
  have g19 := ok_come (P := l.prog) (w := w) (base := base) F19  n_len n_sorted
  have g20 := ok_tiesby (P := l.prog) (w := w) (base := base) F20 g18 b18 k18 m18 g19 b19 k19 m19 n_len n_range n_enumerate n_sorted n_set
  have g21 := ok_lref (P := l.prog) (w := w) (base := base) F21 Z h10 b10 k10 m10
  have g22 := ok_oddt (P := l.prog) (w := w) (base := base) F22  n_tuple
  have g23 := ok_thing (P := l.prog) (w := w) (base := base) F23 g18 b18 k18 m18 g22 b22 k22 m22 n_len
  exact ok_law F24 g16 b16 k16 m16 g21 b21 k21 m21 g23 b23 k23 m23 g20 b20 k20 m20 g12 b12 k12 m12 n_len n_range n_min n_max n_list n_repr
theorem walk {l : PySem.W.OpenLaw} {q : Program} {loose : List Str} {XP : (Str → Option Value) → Heap → Prop} {YP : World → Heap → Prop} {d : DefRec} {K : Params → PySem.W.Frag} (hn : l.most = some 63) (hdf : d.params.defaults = [])
    (hY : ∀ (w : World) (h : Heap), YP w h → (K w.params).In h)
    (F : ∀ (w : World) (mg : Str → Option Value) (fa : Addr) (h : Heap), (K w.params).In h → h.Ns mainGlobals mg → mg d.name = some (.ref fa) →
      ∃ fd : FuncData, (∀ (s : Shared) (u : Value), BindsTo s fd ⟨[u], []⟩ [("_law_script", u)]) ∧ ∀ base : Heap, (K w.params).In base → base.Ns mainGlobals mg → FnOk l.prog w (K w.params) mg base CX0 8 fa fd ["_law_script"] (spLaw (K w.params))) :
    PySem.W.WalkO q loose XP YP l.row.toRowW d [] (fun f vs => PySem.call f vs) :=
  L2.walk_of (n := 63) (k := 8) (x := "_law_script") (CX := fun _ => CX0) (sp := fun w => spLaw (K w.params)) hn (by decide) hdf ⟨rfl, by decide, by decide, rfl⟩ hY F (fun _ _ a ns hl _ hS => ⟨a, ns, rfl, hS, hl, fun _ => rfl⟩) fun _ _ _ _ _ z => z
end My
open PySem PySem.W PyProof.Rows
set_option maxRecDepth 100000 in
set_option maxHeartbeats 0 in
set_option maxHeartbeats 16000000 in
theorem PySem.Challenge.cw_roundsalone_k39_what_is_no_step_holds : PySem.Challenge.rw_roundsalone_k39_what_is_no_step.Holds := by
  w_on; o_law; k_head; (case hw => w_witness2)
  k_fill
  refine My.walk (l := PySem.Challenge.rw_roundsalone_k39_what_is_no_step) rfl rfl (fun w h Y => PySem.W.kIn_of Y) ?F
  case F =>
    intro w mg fa h KX G hmg
    refine' My.all_mk KX G hmg ?a1 ?l1 ?c1 ?k1 ?a2 ?l2 ?c2 ?k2 ?a3 ?l3 ?c3 ?k3 ?a4 ?l4 ?c4 ?k4 ?a5 ?l5 ?c5 ?k5 ?a6 ?l6 ?c6 ?k6 ?a7 ?l7 ?c7 ?k7 ?a8 ?l8 ?c8 ?k8 ?a9 ?l9 ?c9 ?k9 ?a10 ?l10 ?c10 ?k10 ?a11 ?l11 ?c11 ?k11 ?a12 ?l12 ?c12 ?k12 ?a13 ?l13 ?c13 ?k13 ?a14 ?l14 ?c14 ?k14 ?a15 ?l15 ?c15 ?k15 ?a16 ?l16 ?c16 ?k16 ?a17 ?l17 ?c17 ?k17 ?a18 ?l18 ?c18 ?k18 ?a19 ?l19 ?c19 ?k19 ?a20 ?l20 ?c20 ?k20 ?a21 ?l21 ?c21 ?k21 ?a22 ?l22 ?c22 ?k22 ?a23 ?l23 ?c23 ?k23 ?a24 ?l24 ?c24 ?k24 ?q1 ?q2 ?z1 ?z2 ?z3 ?z4 ?z5 ?z6 ?z7 ?z8 ?z9 ?z10 ?z11 ?z12 ?z13 ?z14 ?z15 ?z16 ?y1 ?y2 ?y3 ?y4 ?y5 ?x1 ?x2 ?x3 ?x4 ?x5 ?x6 ?x7 ?x8 ?v1 ?w1 ?v2 ?w2 ?v3 ?w3
    (case a1 => k_is)
    (case l1 => k_is)
    (case c1 => k_is)
    (case k1 => k_is)
    (case a2 => k_is)
    (case l2 => k_is)
    (case c2 => k_is)
    (case k2 => k_is)
    (case a3 => k_is)
    (case l3 => k_is)
    (case c3 => k_is)
    (case k3 => k_is)
    (case a4 => k_is)
    (case l4 => k_is)
    (case c4 => k_is)
    (case k4 => k_is)
    (case a5 => k_is)
    (case l5 => k_is)
    (case c5 => k_is)
    (case k5 => k_is)
    (case a6 => k_is)
    (case l6 => k_is)
    (case c6 => k_is)
    (case k6 => k_is)
    (case a7 => k_is)
    (case l7 => k_is)
    (case c7 => k_is)
    (case k7 => k_is)
    (case a8 => k_is)
    (case l8 => k_is)
    (case c8 => k_is)
    (case k8 => k_is)
    (case a9 => k_is)
    (case l9 => k_is)
    (case c9 => k_is)
    (case k9 => k_is)
    (case a10 => k_is)
    (case l10 => k_is)
    (case c10 => k_is)
    (case k10 => k_is)
    (case a11 => k_is)
    (case l11 => k_is)
    (case c11 => k_is)
    (case k11 => k_is)
    (case a12 => k_is)
    (case l12 => k_is)
    (case c12 => k_is)
    (case k12 => k_is)
    (case a13 => k_is)
    (case l13 => k_is)
    (case c13 => k_is)
    (case k13 => k_is)
    (case a14 => k_is)
    (case l14 => k_is)
    (case c14 => k_is)
    (case k14 => k_is)
    (case a15 => k_is)
    (case l15 => k_is)
    (case c15 => k_is)
    (case k15 => k_is)
    (case a16 => k_is)
    (case l16 => k_is)
    (case c16 => k_is)
    (case k16 => k_is)
    (case a17 => k_is)
    (case l17 => k_is)
    (case c17 => k_is)
    (case k17 => k_is)
    (case a18 => k_is)
    (case l18 => k_is)
    (case c18 => k_is)
    (case k18 => k_is)
    (case a19 => k_is)
    (case l19 => k_is)
    (case c19 => k_is)
    (case k19 => k_is)
    (case a20 => k_is)
    (case l20 => k_is)
    (case c20 => k_is)
    (case k20 => k_is)
    (case a21 => k_is)
    (case l21 => k_is)
    (case c21 => k_is)
    (case k21 => k_is)
    (case a22 => k_is)
    (case l22 => k_is)
    (case c22 => k_is)
    (case k22 => k_is)
    (case a23 => k_is)
    (case l23 => k_is)
    (case c23 => k_is)
    (case k23 => k_is)
    (case a24 => k_is)
    (case l24 => k_is)
    (case c24 => k_is)
    (case k24 => k_is)
    (case q1 => k_is)
    (case q2 => k_is)
    (case z1 => k_is)
    (case z2 => k_is)
    (case z3 => k_is)
    (case z4 => k_is)
    (case z5 => k_is)
    (case z6 => k_is)
    (case z7 => k_is)
    (case z8 => k_is)
    (case z9 => k_is)
    (case z10 => k_is)
    (case z11 => k_is)
    (case z12 => k_is)
    (case z13 => k_is)
    (case z14 => k_is)
    (case z15 => k_is)
    (case z16 => k_is)
    (case y1 => k_is)
    (case y2 => k_exc)
    (case y3 => k_is)
    (case y4 => kts_exm)
    (case y5 => kit_is)
    (case x1 => k_is)
    (case x2 => k_is)
    (case x3 => k_is)
    (case x4 => k_is)
    (case x5 => k_is)
    (case x6 => k_is)
    (case x7 => k_is)
    (case x8 => k_is)
    (case v1 => k_is)
    (case w1 => kit_is)
    (case v2 => k_is)
    (case w2 => kit_is)
    (case v3 => k_is)
    (case w3 => kit_is)
#print axioms PySem.Challenge.cw_roundsalone_k39_what_is_no_step_holds
