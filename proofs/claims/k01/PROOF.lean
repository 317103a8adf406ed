import PyProof.Rows.All
import Wide.All
import OpenK.AllK
import Wide.FinOn
import HandS.ForMost
import HandS.More
import HandS.Style
import HandS.Wide
import HandS.IsInst
import HandS.Deep
import HandS.TupAny
import HandS.Flow
import HandS.Set
import HandS.SetFor
import PySem.Challenge.RW_rebuiltby_k01_kinds
set_option Elab.async false
set_option linter.all false
set_option maxRecDepth 100000
set_option maxHeartbeats 4000000
namespace J
open PySem PySem.Spec PyProof.Rows L2

/-! ## 1. Data, stores, environments -/
inductive D where
  | non | bl (b : Bool) | int (i : Int) | str (x : Str) | lst (xs : List D) | tup (xs : List D) | frz (xs : List D) | obj (n : Nat)
abbrev Ob := List (Str × D)
abbrev Store := List Ob
/-- a slot: nothing, a value, a list that nobody else holds -/
inductive Slot where
  | un | d (x : D) | own (xs : List D)
abbrev Env := List Slot

/-- the list of the script: known to the object, or one of the text's own -/
def Fz (K : PySem.W.Frag) (H : Hp) (a : Addr) (xs : List V) : Prop := (∃ o, H a = some (.frz o (.lst xs))) ∨
    ∃ (o : Obj) (its : Array Value) (n : Nat), K.lookup a = some o ∧ o.cls = .type "list" ∧ o.dict = none ∧ o.data = .seq its n ∧ its.size ≤ sizeLine ∧ Vals xs its.toList
theorem Fz.seq {K : PySem.W.Frag} {H : Hp} {a : Addr} {xs : List V} (h : Fz K H a xs) : SqL K H a xs := h.elim (fun e => .inl (.inr e)) .inr
theorem Fz.keep {K : PySem.W.Frag} {H H' : Hp} {a : Addr} {xs : List V} (h : Fz K H a xs) (k : ∀ o, H a = some (.frz o (.lst xs)) → H' a = some (.frz o (.lst xs))) : Fz K H' a xs := h.elim (fun ⟨o, e⟩ => .inl ⟨o, k o e⟩) .inr
mutual
inductive Rp (K : PySem.W.Frag) (F : Addr → Prop) (α : List Addr) (H : Hp) : V → D → Prop
  | non : Rp K F α H .non .non
  | bl (b : Bool) : Rp K F α H (.bl b) (.bl b)
  | int (i : Int) : Rp K F α H (.int i) (.int i)
  | str (x : Str) : Rp K F α H (.str x) (.str x)
  | lst {a : Addr} {xs : List V} {ds : List D} : F a → H a = some (.lst xs) → RpA K F α H xs ds → Rp K F α H (.ref a) (.lst ds)
  | tup {a : Addr} {xs : List V} {ds : List D} : H a = some (.tup xs) → RpA K F α H xs ds → Rp K F α H (.ref a) (.tup ds)
  | frz {a : Addr} {xs : List V} {ds : List D} : Fz K H a xs → RpA K F α H xs ds → Rp K F α H (.ref a) (.frz ds)
  | obj {a : Addr} {n : Nat} : α[n]? = some a → Rp K F α H (.ref a) (.obj n)
inductive RpA (K : PySem.W.Frag) (F : Addr → Prop) (α : List Addr) (H : Hp) : List V → List D → Prop
  | nil : RpA K F α H [] []
  | cons {v : V} {vs : List V} {d : D} {ds : List D} : Rp K F α H v d → RpA K F α H vs ds → RpA K F α H (v :: vs) (d :: ds)
end

/-- the store's dicts stand at α -/
structure StR (K : PySem.W.Frag) (F : Addr → Prop) (α : List Addr) (H : Hp) (S : Store) : Prop where
  len : α.length = S.length
  nd : α.Nodup
  fa : ∀ a, F a → H a ≠ none
  ob : ∀ (n : Nat) (a : Addr), α[n]? = some a → ∃ (kvs : List (Key × V)) (o : Ob), S[n]? = some o ∧ H a = some (.dK kvs) ∧
    Paired (fun (p : Key × V) (q : Str × D) => p.1 = Sum.inr q.1 ∧ Rp K F α H p.2 q.2) kvs o

/-- what may have come to pass -/
structure Step (F : Addr → Prop) (α : List Addr) (H : Hp) (F' : Addr → Prop) (α' : List Addr) (H' : Hp) : Prop where
  fm : ∀ a, F a → F' a
  fn : ∀ a, F' a → F a ∨ H a = none
  ap : ∃ m, α' = α ++ m ∧ ∀ a ∈ m, H a = none
  hp : ∀ a o, H a = some o → a ∉ α → H' a = some o
  hd : ∀ a, a ∈ α → ∃ kvs, H' a = some (.dK kvs)

def isDK : Option HO → Prop
  | some (.dK _) => True
  | _ => False

section
variable {K : PySem.W.Frag} {F F' F2 : Addr → Prop} {α α' α2 : List Addr} {H H' H2 : Hp} {S S' : Store}
theorem StR.at (s : StR K F α H S) {a : Addr} (h : a ∈ α) : ∃ kvs, H a = some (.dK kvs) := by
  obtain ⟨n, hn⟩ := List.mem_iff_getElem?.mp h
  obtain ⟨kvs, _, _, e, _⟩ := s.ob n a hn
  exact ⟨kvs, e⟩
theorem StR.out (s : StR K F α H S) {a : Addr} {o : HO} (h : H a = some o) (n : ∀ kvs, o ≠ .dK kvs) : a ∉ α := fun m => by
  obtain ⟨kvs, e⟩ := s.at m
  rw [h] at e
  exact n kvs (Option.some.inj e)
theorem Step.refl (s : StR K F α H S) : Step F α H F α H := ⟨fun _ h => h, fun _ h => .inl h, ⟨[], by simp, fun _ h => by simp at h⟩, fun _ _ h _ => h, fun _ m => s.at m⟩
theorem Step.back (s : Step F α H F' α' H') {a : Addr} (h : H' a = none) : H a = none := by
  cases e : H a with
  | none => rfl
  | some o =>
    by_cases m : a ∈ α
    · obtain ⟨kvs, q⟩ := s.hd a m
      rw [h] at q; cases q
    · rw [s.hp a o e m] at h; cases h
theorem Step.trans (s : Step F α H F' α' H') (t : Step F' α' H' F2 α2 H2) : Step F α H F2 α2 H2 where
  fm := fun a h => t.fm a (s.fm a h)
  fn := fun a h => by
    rcases t.fn a h with h | h
    · exact s.fn a h
    · exact .inr (s.back h)
  ap := by
    obtain ⟨m, e, hm⟩ := s.ap
    obtain ⟨m2, e2, hm2⟩ := t.ap
    refine ⟨m ++ m2, by rw [e2, e, List.append_assoc], fun a h => ?_⟩
    rcases List.mem_append.mp h with h | h
    · exact hm a h
    · exact s.back (hm2 a h)
  hp := fun a o h n => by
    refine t.hp a o (s.hp a o h n) fun m => ?_
    obtain ⟨m1, e, hm⟩ := s.ap
    rw [e] at m
    rcases List.mem_append.mp m with m | m
    · exact n m
    · rw [hm a m] at h; cases h
  hd := fun a m => by
    obtain ⟨m1, e, _⟩ := s.ap
    exact t.hd a (by rw [e]; exact List.mem_append_left _ m)
mutual
theorem Rp.mono (s : StR K F α H S) (t : Step F α H F' α' H') : ∀ {v : V} {d : D}, Rp K F α H v d → Rp K F' α' H' v d
  | _, _, .non => .non
  | _, _, .bl b => .bl b
  | _, _, .int i => .int i
  | _, _, .str x => .str x
  | _, _, .lst f h r => .lst (t.fm _ f) (t.hp _ _ h (s.out h fun _ e => by cases e)) (RpA.mono s t r)
  | _, _, .tup h r => .tup (t.hp _ _ h (s.out h fun _ e => by cases e)) (RpA.mono s t r)
  | _, _, .frz h r => .frz (h.keep fun _ h => t.hp _ _ h (s.out h fun _ e => by cases e)) (RpA.mono s t r)
  | _, _, .obj h => .obj (by
      obtain ⟨m, e, _⟩ := t.ap
      rw [e, List.getElem?_append_left (List.getElem?_eq_some_iff.mp h).1]; exact h)
theorem RpA.mono (s : StR K F α H S) (t : Step F α H F' α' H') : ∀ {vs : List V} {ds : List D}, RpA K F α H vs ds → RpA K F' α' H' vs ds
  | _, _, .nil => .nil
  | _, _, .cons h r => .cons (Rp.mono s t h) (RpA.mono s t r)
end
theorem RpA.length : ∀ {vs : List V} {ds : List D}, RpA K F α H vs ds → vs.length = ds.length
  | _, _, .nil => rfl
  | _, _, .cons _ r => by rw [List.length_cons, List.length_cons, RpA.length r]
theorem RpA.get : ∀ {vs : List V} {ds : List D} {i : Nat} {v : V}, RpA K F α H vs ds → vs[i]? = some v → ∃ d, ds[i]? = some d ∧ Rp K F α H v d
  | _, _, _, _, .nil, e => by simp at e
  | _, _, 0, _, .cons h _, e => by simp at e; subst e; exact ⟨_, by simp, h⟩
  | _, _, i + 1, _, .cons _ r, e => by
    obtain ⟨d, h1, h2⟩ := RpA.get (i := i) r (by simpa using e)
    exact ⟨d, by simpa using h1, h2⟩
theorem RpA.getD : ∀ {vs : List V} {ds : List D} {i : Nat} {d : D}, RpA K F α H vs ds → ds[i]? = some d → ∃ v, vs[i]? = some v ∧ Rp K F α H v d
  | _, _, _, _, .nil, e => by simp at e
  | _, _, 0, _, .cons h _, e => by simp at e; subst e; exact ⟨_, by simp, h⟩
  | _, _, i + 1, _, .cons _ r, e => by
    obtain ⟨d, h1, h2⟩ := RpA.getD (i := i) r (by simpa using e)
    exact ⟨d, by simpa using h1, h2⟩
theorem RpA.append : ∀ {vs : List V} {ds : List D} {us : List V} {es : List D}, RpA K F α H vs ds → RpA K F α H us es → RpA K F α H (vs ++ us) (ds ++ es)
  | _, _, _, _, .nil, h => h
  | _, _, _, _, .cons h r, q => .cons h (RpA.append r q)
theorem RpA.take : ∀ {vs : List V} {ds : List D} (n : Nat), RpA K F α H vs ds → RpA K F α H (vs.take n) (ds.take n)
  | _, _, 0, _ => by simp; exact .nil
  | _, _, _ + 1, .nil => .nil
  | _, _, n + 1, .cons h r => .cons h (RpA.take n r)
theorem RpA.drop : ∀ {vs : List V} {ds : List D} (n : Nat), RpA K F α H vs ds → RpA K F α H (vs.drop n) (ds.drop n)
  | _, _, 0, r => r
  | _, _, _ + 1, .nil => .nil
  | _, _, n + 1, .cons _ r => RpA.drop n r
theorem RpA.reverse : ∀ {vs : List V} {ds : List D}, RpA K F α H vs ds → RpA K F α H vs.reverse ds.reverse
  | _, _, .nil => .nil
  | _, _, .cons h r => by
    rw [List.reverse_cons, List.reverse_cons]
    exact RpA.append (RpA.reverse r) (.cons h .nil)
end

section
variable {K : PySem.W.Frag} {F F' : Addr → Prop} {α α' : List Addr} {H H' : Hp} {S : Store}
mutual
theorem Rp.fm (f : ∀ a, F a → F' a) : ∀ {v : V} {d : D}, Rp K F α H v d → Rp K F' α H v d
  | _, _, .non => .non
  | _, _, .bl b => .bl b
  | _, _, .int i => .int i
  | _, _, .str x => .str x
  | _, _, .lst h q r => .lst (f _ h) q (RpA.fm f r)
  | _, _, .tup q r => .tup q (RpA.fm f r)
  | _, _, .frz q r => .frz q (RpA.fm f r)
  | _, _, .obj h => .obj h
theorem RpA.fm (f : ∀ a, F a → F' a) : ∀ {vs : List V} {ds : List D}, RpA K F α H vs ds → RpA K F' α H vs ds
  | _, _, .nil => .nil
  | _, _, .cons h r => .cons (Rp.fm f h) (RpA.fm f r)
end
end
/-! ## 2. What a step keeps -/
section
variable {K : PySem.W.Frag} {F F' F2 : Addr → Prop} {α α' α2 : List Addr} {H H' H2 : Hp} {S S' : Store} {σ : L2.St} {ρ : Env}
/-- a new object at p -/
theorem Step.new {p : Addr} {o : HO} (s : StR K F α H S) (h : H p = none) : Step F α H F α (upd H p o) :=
  ⟨fun _ h => h, fun _ h => .inl h, ⟨[], by simp, fun _ h => by simp at h⟩, fun a u e _ => by rw [upd_ne (ne_of_none e h)]; exact e, fun a m => by
    obtain ⟨kvs, e⟩ := s.at m
    exact ⟨kvs, by rw [upd_ne (ne_of_none e h)]; exact e⟩⟩
/-- a new object at p, known from now on as one that stays -/
theorem Step.newF {p : Addr} {o : HO} (s : StR K F α H S) (h : H p = none) : Step F α H (fun a => F a ∨ a = p) α (upd H p o) :=
  ⟨fun _ h => .inl h, fun a q => q.elim .inl fun e => .inr (by rw [e]; exact h), ⟨[], by simp, fun _ h => by simp at h⟩, fun a u e _ => by rw [upd_ne (ne_of_none e h)]; exact e, fun a m => by
    obtain ⟨kvs, e⟩ := s.at m
    exact ⟨kvs, by rw [upd_ne (ne_of_none e h)]; exact e⟩⟩
theorem pairedImp {α β : Type} {P Q : α → β → Prop} : ∀ {l₁ : List α} {l₂ : List β}, Paired P l₁ l₂ → (∀ a b, P a b → Q a b) → Paired Q l₁ l₂
  | _, _, .nil, _ => .nil
  | _, _, .cons r t, f => .cons (f _ _ r) (pairedImp t f)
/-- the store stands behind a step that leaves its dicts and adds none -/
theorem StR.mono (s : StR K F α H S) (t : Step F α H F' α H') (k : ∀ a ∈ α, H' a = H a) (hf : ∀ a, F' a → H a = none → H' a ≠ none) : StR K F' α H' S :=
  ⟨s.len, s.nd, fun a f q => hf a f (t.back q) q, fun n a e => by
    obtain ⟨kvs, o, h1, h2, h3⟩ := s.ob n a e
    exact ⟨kvs, o, h1, by rw [k a (List.mem_of_getElem? e)]; exact h2, pairedImp h3 fun _ _ q => ⟨q.1, q.2.mono s t⟩⟩⟩
theorem StR.new {p : Addr} {o : HO} (s : StR K F α H S) (h : H p = none) : StR K F α (upd H p o) S :=
  s.mono (Step.new s h) (fun a m => by
    obtain ⟨kvs, e⟩ := s.at m
    exact upd_ne (ne_of_none e h)) fun a f e => absurd e (s.fa a f)
theorem StR.newF {p : Addr} {o : HO} (s : StR K F α H S) (h : H p = none) : StR K (fun a => F a ∨ a = p) α (upd H p o) S :=
  s.mono (Step.newF s h) (fun a m => by
    obtain ⟨kvs, e⟩ := s.at m
    exact upd_ne (ne_of_none e h)) fun a f e => by
      rcases f with f | f
      · exact absurd e (s.fa a f)
      · rw [f, upd_same]; exact fun z => by cases z

theorem StR.fm (s : StR K F α H S) (f : ∀ a, F a → F' a) (hf : ∀ a, F' a → F a ∨ H a ≠ none) : StR K F' α H S :=
  ⟨s.len, s.nd, fun a q => (hf a q).elim (s.fa a) id, fun n a e => by
    obtain ⟨kvs, o, h1, h2, h3⟩ := s.ob n a e
    exact ⟨kvs, o, h1, h2, pairedImp h3 fun _ _ q => ⟨q.1, q.2.fm f⟩⟩⟩
/-- the new list at p is known from now on as one that stays -/
theorem Step.keepF {p : Addr} (t : Step F α H F' α' H') (h : H p = none) : Step F α H (fun a => F' a ∨ a = p) α' H' :=
  ⟨fun a q => .inl (t.fm a q), fun a q => q.elim (t.fn a) fun e => .inr (by rw [e]; exact h), t.ap, t.hp, t.hd⟩
/-- a slot holds what the environment says -/
def SlotR (K : PySem.W.Frag) (F : Addr → Prop) (α : List Addr) (H : Hp) (o : Option (Option V)) : Slot → Prop
  | .un => True
  | .d x => ∃ v, o = some (some v) ∧ Rp K F α H v x
  | .own xs => ∃ a vs, o = some (some (.ref a)) ∧ H a = some (.lst vs) ∧ ¬ F a ∧ RpA K F α H vs xs
structure EnR (K : PySem.W.Frag) (F : Addr → Prop) (α : List Addr) (H : Hp) (σ : L2.St) (ρ : Env) : Prop where
  len : σ.length = ρ.length
  sl : ∀ (i : Nat) (s : Slot), ρ[i]? = some s → SlotR K F α H σ[i]? s
  di : ∀ (i j : Nat) (xs ys : List D) (a : Addr), ρ[i]? = some (.own xs) → ρ[j]? = some (.own ys) → σ[i]? = some (some (.ref a)) → σ[j]? = some (some (.ref a)) → i = j
theorem SlotR.mono (s : StR K F α H S) (t : Step F α H F' α' H') {o : Option (Option V)} : ∀ {x : Slot}, SlotR K F α H o x → SlotR K F' α' H' o x
  | .un, _ => True.intro
  | .d x, ⟨v, e, r⟩ => ⟨v, e, r.mono s t⟩
  | .own xs, ⟨a, vs, e, h, nf, r⟩ => ⟨a, vs, e, t.hp _ _ h (s.out h fun _ e => by cases e), (fun f => (t.fn a f).elim nf fun z => by rw [h] at z; cases z), r.mono s t⟩
theorem EnR.mono (s : StR K F α H S) (t : Step F α H F' α' H') (e : EnR K F α H σ ρ) : EnR K F' α' H' σ ρ := ⟨e.len, fun i x h => (e.sl i x h).mono s t, e.di⟩
theorem EnR.set {v : V} {x : D} (e : EnR K F α H σ ρ) (i : Nat) (r : Rp K F α H v x) : EnR K F α H (σ.set i (some v)) (ρ.set i (.d x)) := by
  refine ⟨by rw [List.length_set, List.length_set]; exact e.len, fun j s h => ?_, fun j k xs ys a h1 h2 h3 h4 => ?_⟩
  · by_cases hj : i = j
    · subst hj
      have hi : i < ρ.length := by
        have := (List.getElem?_eq_some_iff.mp h).1
        rwa [List.length_set] at this
      rw [List.getElem?_set_self hi] at h
      cases h
      refine ⟨v, ?_, r⟩
      rw [List.getElem?_set_self (by rw [e.len]; exact hi)]
    · rw [List.getElem?_set_ne hj] at h
      rw [List.getElem?_set_ne hj]
      exact e.sl j s h
  · have nj : ∀ {j : Nat} {xs : List D}, (ρ.set i (.d x))[j]? = some (.own xs) → i ≠ j := fun {j xs} h z => by
      subst z
      have hi : i < ρ.length := by
        have := (List.getElem?_eq_some_iff.mp h).1
        rwa [List.length_set] at this
      rw [List.getElem?_set_self hi] at h
      cases h
    have n1 := nj h1
    have n2 := nj h2
    rw [List.getElem?_set_ne n1] at h1 h3
    rw [List.getElem?_set_ne n2] at h2 h4
    exact e.di j k xs ys a h1 h2 h3 h4
/-- a slot gets a list of its own -/
theorem EnR.setO {a : Addr} {vs : List V} {xs : List D} (e : EnR K F α H σ ρ) (i : Nat) (h : H a = some (.lst vs)) (nf : ¬ F a) (r : RpA K F α H vs xs) (new : ∀ (j : Nat) (ys : List D), j ≠ i → ρ[j]? = some (.own ys) → σ[j]? ≠ some (some (.ref a))) :
    EnR K F α H (σ.set i (some (.ref a))) (ρ.set i (.own xs)) := by
  refine ⟨by rw [List.length_set, List.length_set]; exact e.len, fun j s h' => ?_, fun j k ys zs b h1 h2 h3 h4 => ?_⟩
  · by_cases hj : i = j
    · subst hj
      have hi : i < ρ.length := by
        have := (List.getElem?_eq_some_iff.mp h').1
        rwa [List.length_set] at this
      rw [List.getElem?_set_self hi] at h'
      cases h'
      refine ⟨a, vs, ?_, h, nf, r⟩
      rw [List.getElem?_set_self (by rw [e.len]; exact hi)]
    · rw [List.getElem?_set_ne hj] at h'
      rw [List.getElem?_set_ne hj]
      exact e.sl j s h'
  · have hi : ∀ {j : Nat} {s : Slot}, (ρ.set i (.own xs))[j]? = some s → i = j → i < σ.length := fun {j s} q z => by
      subst z
      have := (List.getElem?_eq_some_iff.mp q).1
      rw [List.length_set] at this
      rw [e.len]; exact this
    by_cases hj : i = j
    · by_cases hk : i = k
      · exact hj.symm.trans hk
      · subst hj
        rw [List.getElem?_set_self (hi h1 rfl)] at h3
        cases h3
        rw [List.getElem?_set_ne hk] at h2 h4
        exact absurd h4 (new k zs (Ne.symm hk) h2)
    · by_cases hk : i = k
      · subst hk
        rw [List.getElem?_set_self (hi h2 rfl)] at h4
        cases h4
        rw [List.getElem?_set_ne hj] at h1 h3
        exact absurd h3 (new j ys (Ne.symm hj) h1)
      · rw [List.getElem?_set_ne hj] at h1 h3
        rw [List.getElem?_set_ne hk] at h2 h4
        exact e.di j k ys zs b h1 h2 h3 h4
end
end J

set_option maxHeartbeats 4000000
namespace J
open PySem PySem.Spec PyProof.Rows L2

/-! ## 3. What an expression is worth -/
/-- an expression's worth: a value; a test's; a list's items; several values -/
abbrev EX := Env → Store → Option (D × Store)
abbrev ET := Env → Store → Option (Bool × Store)
abbrev EL := Env → Store → Option (List D × Store)

/-- a value that may be a list that somebody holds -/
inductive Rw (K : PySem.W.Frag) (F : Addr → Prop) (α : List Addr) (H : Hp) : V → D → Prop
  | st {v : V} {d : D} : Rp K F α H v d → Rw K F α H v d
  | lst {a : Addr} {vs : List V} {xs : List D} : H a = some (.lst vs) → RpA K F α H vs xs → Rw K F α H (.ref a) (.lst xs)
inductive RwA (K : PySem.W.Frag) (F : Addr → Prop) (α : List Addr) (H : Hp) : List V → List D → Prop
  | nil : RwA K F α H [] []
  | cons {v : V} {vs : List V} {d : D} {ds : List D} : Rw K F α H v d → RwA K F α H vs ds → RwA K F α H (v :: vs) (d :: ds)

section
variable {K : PySem.W.Frag} {F F' F2 : Addr → Prop} {α α' α2 : List Addr} {H H' H2 : Hp} {S S' : Store} {σ : L2.St} {ρ : Env}
theorem Rw.mono (s : StR K F α H S) (t : Step F α H F' α' H') {v : V} {d : D} : Rw K F α H v d → Rw K F' α' H' v d
  | .st r => .st (r.mono s t)
  | .lst h r => .lst (t.hp _ _ h (s.out h fun _ e => by cases e)) (r.mono s t)
theorem RwA.mono (s : StR K F α H S) (t : Step F α H F' α' H') : ∀ {vs : List V} {ds : List D}, RwA K F α H vs ds → RwA K F' α' H' vs ds
  | _, _, .nil => .nil
  | _, _, .cons h r => .cons (h.mono s t) (RwA.mono s t r)
end

/-- f says what the reading gives: a value that stays -/
def tV (K : PySem.W.Frag) (f : EX) : TE := fun σ H Q => ∃ F α ρ S d S', StR K F α H S ∧ EnR K F α H σ ρ ∧ f ρ S = some (d, S') ∧
  ∀ v F' α' H', Step F α H F' α' H' → StR K F' α' H' S' → Rp K F' α' H' v d → Q v H'
/-- a value, perhaps a list that somebody holds -/
def tW (K : PySem.W.Frag) (f : EX) : TE := fun σ H Q => ∃ F α ρ S d S', StR K F α H S ∧ EnR K F α H σ ρ ∧ f ρ S = some (d, S') ∧
  ∀ v F' α' H', Step F α H F' α' H' → StR K F' α' H' S' → Rw K F' α' H' v d → Q v H'
/-- a new list that nobody holds -/
def tL (K : PySem.W.Frag) (f : EL) : TE := fun σ H Q => ∃ F α ρ S ds S', StR K F α H S ∧ EnR K F α H σ ρ ∧ f ρ S = some (ds, S') ∧
  ∀ a vs F' α' H', Step F α H F' α' H' → StR K F' α' H' S' → H a = none → ¬ F' a → H' a = some (.lst vs) → RpA K F' α' H' vs ds → Q (.ref a) H'
/-- a test -/
def tT (K : PySem.W.Frag) (f : ET) : TT := fun σ H Q => ∃ F α ρ S b S', StR K F α H S ∧ EnR K F α H σ ρ ∧ f ρ S = some (b, S') ∧
  ∀ F' α' H', Step F α H F' α' H' → StR K F' α' H' S' → Q b H'
/-- several values that stay | that may be held -/
def tVs (K : PySem.W.Frag) (f : EL) : TA := fun σ H Q => ∃ F α ρ S ds S', StR K F α H S ∧ EnR K F α H σ ρ ∧ f ρ S = some (ds, S') ∧
  ∀ vs F' α' H', Step F α H F' α' H' → StR K F' α' H' S' → RpA K F' α' H' vs ds → Q vs H'
def tWs (K : PySem.W.Frag) (f : EL) : TA := fun σ H Q => ∃ F α ρ S ds S', StR K F α H S ∧ EnR K F α H σ ρ ∧ f ρ S = some (ds, S') ∧
  ∀ vs F' α' H', Step F α H F' α' H' → StR K F' α' H' S' → RwA K F' α' H' vs ds → Q vs H'

theorem pe_weak {X : Cx} {e : Expr} {t t' : TE} (h : PE X e t) (w : ∀ σ H Q, t' σ H Q → t σ H Q) : PE X e t' := ⟨fun pins s σ H Q I q => h.run pins s σ H Q I (w σ H Q q)⟩
theorem pt_weak {X : Cx} {e : Expr} {t t' : TT} (h : PT X e t) (w : ∀ σ H Q, t' σ H Q → t σ H Q) : PT X e t' := ⟨fun pins s σ H Q I q => h.run pins s σ H Q I (w σ H Q q)⟩
theorem pw_weak {X : Cx} {e : Expr} {t t' : TT} (h : PW X e t) (w : ∀ σ H Q, t' σ H Q → t σ H Q) : PW X e t' := ⟨fun wh pins s σ H Q I q => h.run wh pins s σ H Q I (w σ H Q q)⟩
theorem pa_weak {X : Cx} {es : List Expr} {t t' : TA} (h : PA X es t) (w : ∀ σ H Q, t' σ H Q → t σ H Q) : PA X es t' := ⟨fun pos pins s σ H Q I q => h.run pos pins s σ H Q I (w σ H Q q)⟩

/-! ### the combinators -/
def eC (d : D) : EX := fun _ S => some (d, S)
def eV (i : Nat) : EX := fun ρ S => match ρ[i]? with | some (.d x) => some (x, S) | _ => none
/-- a name whose list is looked at, not taken -/
def eP (i : Nat) : EX := fun ρ S => match ρ[i]? with | some (.d x) => some (x, S) | some (.own xs) => some (.lst xs, S) | _ => none
def e1 (g : D → Option D) (f : EX) : EX := fun ρ S => match f ρ S with | some (x, S1) => (match g x with | some z => some (z, S1) | none => none) | none => none
def e2 (g : D → D → Option D) (f h : EX) : EX := fun ρ S => match f ρ S with | some (x, S1) => (match h ρ S1 with | some (y, S2) => (match g x y with | some z => some (z, S2) | none => none) | none => none) | none => none
/-- a new list made by two values -/
def l2 (g : D → D → Option (List D)) (f h : EX) : EL := fun ρ S => match f ρ S with | some (x, S1) => (match h ρ S1 with | some (y, S2) => (match g x y with | some z => some (z, S2) | none => none) | none => none) | none => none
/-- a new list as a value -/
def eL (f : EL) : EX := fun ρ S => match f ρ S with | some (xs, S1) => some (.lst xs, S1) | none => none
def aN : EL := fun _ S => some ([], S)
def aC (f : EX) (r : EL) : EL := fun ρ S => match f ρ S with | some (x, S1) => (match r ρ S1 with | some (xs, S2) => some (x :: xs, S2) | none => none) | none => none
def aG (g : List D → Option D) (r : EL) : EX := fun ρ S => match r ρ S with | some (xs, S1) => (match g xs with | some z => some (z, S1) | none => none) | none => none
/-- a test from a value that is a bool -/
def tOf (f : EX) : ET := fun ρ S => match f ρ S with | some (.bl b, S1) => some (b, S1) | _ => none
def tAndJ (f g : ET) : ET := fun ρ S => match f ρ S with | some (true, S1) => g ρ S1 | some (false, S1) => some (false, S1) | none => none
def tOrJ (f g : ET) : ET := fun ρ S => match f ρ S with | some (true, S1) => some (true, S1) | some (false, S1) => g ρ S1 | none => none
def tNotJ (f : ET) : ET := fun ρ S => match f ρ S with | some (b, S1) => some (!b, S1) | none => none
def eAnd (f g : EX) : EX := fun ρ S => match f ρ S with | some (.bl true, S1) => g ρ S1 | some (.bl false, S1) => some (.bl false, S1) | _ => none
def eOr (f g : EX) : EX := fun ρ S => match f ρ S with | some (.bl true, S1) => some (.bl true, S1) | some (.bl false, S1) => g ρ S1 | _ => none
def eNot (f : EX) : EX := fun ρ S => match f ρ S with | some (.bl b, S1) => some (.bl (!b), S1) | _ => none
def eIf (c : ET) (f g : EX) : EX := fun ρ S => match c ρ S with | some (true, S1) => f ρ S1 | some (false, S1) => g ρ S1 | none => none

section
variable {X : Cx} {a b c : Expr} {es : List Expr} {f g h : EX} {r : EL} {pos : Pos} {K : PySem.W.Frag}

theorem vw (p : PE X a (tV X.K f)) : PE X a (tW X.K f) := pe_weak p fun σ H Q ⟨F, α, ρ, S, d, S', h1, h2, h3, k⟩ => ⟨F, α, ρ, S, d, S', h1, h2, h3, fun v F' α' H' st hs r => k v F' α' H' st hs (.st r)⟩
theorem lw (p : PE X a (tL X.K r)) : PE X a (tW X.K (eL r)) := pe_weak p fun σ H Q ⟨F, α, ρ, S, d, S', h1, h2, h3, k⟩ => by
  unfold eL at h3
  cases e : r ρ S with
  | none => rw [e] at h3; cases h3
  | some p =>
    obtain ⟨xs, S1⟩ := p
    rw [e] at h3
    cases h3
    exact ⟨F, α, ρ, S, xs, _, h1, h2, e, fun a vs F' α' H' st hs _ _ hl ra => k _ F' α' H' st hs (.lst hl ra)⟩
theorem lv (p : PE X a (tL X.K r)) : PE X a (tV X.K (eL r)) := pe_weak p fun σ H Q ⟨F, α, ρ, S, d, S', h1, h2, h3, k⟩ => by
  unfold eL at h3
  cases e : r ρ S with
  | none => rw [e] at h3; cases h3
  | some p =>
    obtain ⟨xs, S1⟩ := p
    rw [e] at h3
    cases h3
    exact ⟨F, α, ρ, S, xs, _, h1, h2, e, fun a vs F' α' H' st hs hn nf hl ra => k _ (fun b => F' b ∨ b = a) α' H' (st.keepF hn) (hs.fm (fun _ => .inl) fun b q => q.elim .inl fun e => .inr (by rw [e, hl]; exact fun z => by cases z)) (.lst (.inr rfl) hl (ra.fm fun _ => .inl))⟩

/-! ### what the combinators say -/
variable {ρ : Env} {S S' : Store} {d : D} {ds : List D} {t u : ET} {tb : Bool}
theorem e1_some {g : D → Option D} (h : e1 g f ρ S = some (d, S')) : ∃ x, f ρ S = some (x, S') ∧ g x = some d := by
  unfold e1 at h
  split at h
  · split at h
    · cases h; exact ⟨_, by assumption, by assumption⟩
    · cases h
  · cases h
theorem e2_some {g : D → D → Option D} (q : e2 g f h ρ S = some (d, S')) : ∃ x S1 y, f ρ S = some (x, S1) ∧ h ρ S1 = some (y, S') ∧ g x y = some d := by
  unfold e2 at q
  split at q
  · split at q
    · split at q
      · cases q; exact ⟨_, _, _, by assumption, by assumption, by assumption⟩
      · cases q
    · cases q
  · cases q
theorem l2_some {g : D → D → Option (List D)} (q : l2 g f h ρ S = some (ds, S')) : ∃ x S1 y, f ρ S = some (x, S1) ∧ h ρ S1 = some (y, S') ∧ g x y = some ds := by
  unfold l2 at q
  split at q
  · split at q
    · split at q
      · cases q; exact ⟨_, _, _, by assumption, by assumption, by assumption⟩
      · cases q
    · cases q
  · cases q
theorem aC_some (q : aC f r ρ S = some (ds, S')) : ∃ x S1 xs, f ρ S = some (x, S1) ∧ r ρ S1 = some (xs, S') ∧ ds = x :: xs := by
  unfold aC at q
  split at q
  · split at q
    · cases q; exact ⟨_, _, _, by assumption, by assumption, rfl⟩
    · cases q
  · cases q
theorem aG_some {g : List D → Option D} (q : aG g r ρ S = some (d, S')) : ∃ xs, r ρ S = some (xs, S') ∧ g xs = some d := by
  unfold aG at q
  split at q
  · split at q
    · cases q; exact ⟨_, by assumption, by assumption⟩
    · cases q
  · cases q

/-! ### rules by values -/
/-- r does what g says -/
def Sp1 (K : PySem.W.Frag) (r : V → Hp → VK → Prop) (g : D → Option D) : Prop := ∀ F α H S x dx d Q, StR K F α H S → Rw K F α H x dx → g dx = some d →
  (∀ v F' α' H', Step F α H F' α' H' → StR K F' α' H' S → Rp K F' α' H' v d → Q v H') → r x H Q
def Sp2 (K : PySem.W.Frag) (r : R2) (g : D → D → Option D) : Prop := ∀ F α H S x y dx dy d Q, StR K F α H S → Rw K F α H x dx → Rw K F α H y dy → g dx dy = some d →
  (∀ v F' α' H', Step F α H F' α' H' → StR K F' α' H' S → Rp K F' α' H' v d → Q v H') → r x y H Q
def SpL2 (K : PySem.W.Frag) (r : R2) (g : D → D → Option (List D)) : Prop := ∀ F α H S x y dx dy ds Q, StR K F α H S → Rw K F α H x dx → Rw K F α H y dy → g dx dy = some ds →
  (∀ a vs F' α' H', Step F α H F' α' H' → StR K F' α' H' S → H a = none → ¬ F' a → H' a = some (.lst vs) → RpA K F' α' H' vs ds → Q (.ref a) H') → r x y H Q
def SpC (K : PySem.W.Frag) (r : List V → Hp → VK → Prop) (g : List D → Option D) : Prop := ∀ F α H S xs dxs d Q, StR K F α H S → RwA K F α H xs dxs → g dxs = some d →
  (∀ v F' α' H', Step F α H F' α' H' → StR K F' α' H' S → Rp K F' α' H' v d → Q v H') → r xs H Q
def SpCL (K : PySem.W.Frag) (r : List V → Hp → VK → Prop) (g : List D → Option (List D)) : Prop := ∀ F α H S xs dxs ds Q, StR K F α H S → RwA K F α H xs dxs → g dxs = some ds →
  (∀ a vs F' α' H', Step F α H F' α' H' → StR K F' α' H' S → H a = none → ¬ F' a → H' a = some (.lst vs) → RpA K F' α' H' vs ds → Q (.ref a) H') → r xs H Q

theorem j_op {e : Expr} {q : R2} {g : D → D → Option D} (sp : Sp2 X.K q g) (raw : PE X e (tOp q (tW X.K f) (tW X.K h))) : PE X e (tV X.K (e2 g f h)) := pe_weak raw fun σ H Q ⟨F, α, ρ, S, d, S', h1, h2, h3, k⟩ => by
  obtain ⟨x, S1, y, a1, a2, a3⟩ := e2_some h3
  exact ⟨F, α, ρ, S, x, S1, h1, h2, a1, fun v F1 α1 H1 st1 hs1 rv => ⟨F1, α1, ρ, S1, y, _, hs1, h2.mono h1 st1, a2, fun v2 F2 α2 H2 st2 hs2 rv2 =>
    sp F2 α2 H2 _ v v2 x y d Q hs2 (rv.mono hs1 st2) rv2 a3 fun v3 F3 α3 H3 st3 hs3 rv3 => k v3 F3 α3 H3 ((st1.trans st2).trans st3) hs3 rv3⟩⟩
theorem j_opL {e : Expr} {q : R2} {g : D → D → Option (List D)} (sp : SpL2 X.K q g) (raw : PE X e (tOp q (tW X.K f) (tW X.K h))) : PE X e (tL X.K (l2 g f h)) := pe_weak raw fun σ H Q ⟨F, α, ρ, S, d, S', h1, h2, h3, k⟩ => by
  obtain ⟨x, S1, y, a1, a2, a3⟩ := l2_some h3
  exact ⟨F, α, ρ, S, x, S1, h1, h2, a1, fun v F1 α1 H1 st1 hs1 rv => ⟨F1, α1, ρ, S1, y, _, hs1, h2.mono h1 st1, a2, fun v2 F2 α2 H2 st2 hs2 rv2 =>
    sp F2 α2 H2 _ v v2 x y d Q hs2 (rv.mono hs1 st2) rv2 a3 fun a vs F3 α3 H3 st3 hs3 hn nf hl rv3 => k a vs F3 α3 H3 ((st1.trans st2).trans st3) hs3 ((st1.trans st2).back hn) nf hl rv3⟩⟩
theorem j_un {e : Expr} {q : V → Hp → VK → Prop} {g : D → Option D} (sp : Sp1 X.K q g) (raw : PE X e (tUn q (tW X.K f))) : PE X e (tV X.K (e1 g f)) := pe_weak raw fun σ H Q ⟨F, α, ρ, S, d, S', h1, h2, h3, k⟩ => by
  obtain ⟨x, a1, a3⟩ := e1_some h3
  exact ⟨F, α, ρ, S, x, _, h1, h2, a1, fun v F1 α1 H1 st1 hs1 rv => sp F1 α1 H1 _ v x d Q hs1 rv a3 fun v3 F3 α3 H3 st3 hs3 rv3 => k v3 F3 α3 H3 (st1.trans st3) hs3 rv3⟩

/-! ### names, constants, lists of arguments -/
theorem j_var (i : Nat) (p : PE X a (tVar i)) : PE X a (tV X.K (eV i)) := pe_weak p fun σ H Q ⟨F, α, ρ, S, d, S', h1, h2, h3, k⟩ => by
  unfold eV at h3
  split at h3
  · rename_i x e
    cases h3
    obtain ⟨v, e1, r⟩ := h2.sl i _ e
    exact ⟨v, e1, k v F α H (Step.refl h1) h1 r⟩
  · cases h3
theorem j_peek (i : Nat) (p : PE X a (tVar i)) : PE X a (tW X.K (eP i)) := pe_weak p fun σ H Q ⟨F, α, ρ, S, d, S', h1, h2, h3, k⟩ => by
  unfold eP at h3
  split at h3
  · rename_i x e
    cases h3
    obtain ⟨v, e1, r⟩ := h2.sl i _ e
    exact ⟨v, e1, k v F α H (Step.refl h1) h1 (.st r)⟩
  · rename_i xs e
    cases h3
    obtain ⟨b, vs, e1, e2, _, r⟩ := h2.sl i _ e
    exact ⟨.ref b, e1, k _ F α H (Step.refl h1) h1 (.lst e2 r)⟩
  · cases h3
/-- the constants -/
inductive CD : V → D → Prop
  | non : CD .non .non | bl (b : Bool) : CD (.bl b) (.bl b) | int (i : Int) : CD (.int i) (.int i) | str (x : Str) : CD (.str x) (.str x)
theorem j_c {v : V} {d : D} (p : PE X a (tC v)) (c : CD v d) : PE X a (tV X.K (eC d)) := pe_weak p fun σ H Q ⟨F, α, ρ, S, d, S', h1, h2, h3, k⟩ => by
  cases h3
  refine k v F α H (Step.refl h1) h1 ?_
  cases c
  · exact .non
  · exact .bl _
  · exact .int _
  · exact .str _
theorem j_an : PA X [] (tVs X.K aN) := pa_weak pa_nil fun σ H Q ⟨F, α, ρ, S, d, S', h1, h2, h3, k⟩ => by
  cases h3
  exact k [] F α H (Step.refl h1) h1 .nil
theorem j_anW : PA X [] (tWs X.K aN) := pa_weak pa_nil fun σ H Q ⟨F, α, ρ, S, d, S', h1, h2, h3, k⟩ => by
  cases h3
  exact k [] F α H (Step.refl h1) h1 .nil
theorem j_ac (p : PE X a (tV X.K f)) (q : PA X es (tVs X.K r)) (hs : starEach (a :: es) X.env = (false, eval a X.env) :: starEach es X.env := by rfl) : PA X (a :: es) (tVs X.K (aC f r)) :=
  pa_weak (pa_cons p q hs) fun σ H Q ⟨F, α, ρ, S, d, S', h1, h2, h3, k⟩ => by
    obtain ⟨x, S1, xs, a1, a2, rfl⟩ := aC_some h3
    exact ⟨F, α, ρ, S, x, S1, h1, h2, a1, fun v F1 α1 H1 st1 hs1 rv => ⟨F1, α1, ρ, S1, xs, _, hs1, h2.mono h1 st1, a2, fun vs F2 α2 H2 st2 hs2 rv2 =>
      k _ F2 α2 H2 (st1.trans st2) hs2 (.cons (rv.mono hs1 st2) rv2)⟩⟩
theorem j_acW (p : PE X a (tW X.K f)) (q : PA X es (tWs X.K r)) (hs : starEach (a :: es) X.env = (false, eval a X.env) :: starEach es X.env := by rfl) : PA X (a :: es) (tWs X.K (aC f r)) :=
  pa_weak (pa_cons p q hs) fun σ H Q ⟨F, α, ρ, S, d, S', h1, h2, h3, k⟩ => by
    obtain ⟨x, S1, xs, a1, a2, rfl⟩ := aC_some h3
    exact ⟨F, α, ρ, S, x, S1, h1, h2, a1, fun v F1 α1 H1 st1 hs1 rv => ⟨F1, α1, ρ, S1, xs, _, hs1, h2.mono h1 st1, a2, fun vs F2 α2 H2 st2 hs2 rv2 =>
      k _ F2 α2 H2 (st1.trans st2) hs2 (.cons (rv.mono hs1 st2) rv2)⟩⟩
/-- a call by values -/
theorem j_cb {e : Expr} {q : List V → Hp → VK → Prop} {g : List D → Option D} (sp : SpC X.K q g) (raw : PE X e (tCB q (tWs X.K r))) : PE X e (tV X.K (aG g r)) := pe_weak raw fun σ H Q ⟨F, α, ρ, S, d, S', h1, h2, h3, k⟩ => by
  obtain ⟨xs, a1, a3⟩ := aG_some h3
  exact ⟨F, α, ρ, S, xs, _, h1, h2, a1, fun v F1 α1 H1 st1 hs1 rv => sp F1 α1 H1 _ v xs d Q hs1 rv a3 fun v3 F3 α3 H3 st3 hs3 rv3 => k v3 F3 α3 H3 (st1.trans st3) hs3 rv3⟩

/-! ### tests -/
theorem tOf_some (q : tOf f ρ S = some (tb, S')) : f ρ S = some (.bl tb, S') := by
  unfold tOf at q
  split at q
  · cases q; assumption
  · cases q
/-- a value of a bool as a test: the raw rule gives tTest | tB -/
theorem j_test (raw : PT X a (tTest (tV X.K f))) : PT X a (tT X.K (tOf f)) := pt_weak raw fun σ H Q ⟨F, α, ρ, S, d, S', h1, h2, h3, k⟩ =>
  ⟨F, α, ρ, S, _, _, h1, h2, tOf_some h3, fun v F1 α1 H1 st1 hs1 rv => by cases rv; exact ⟨_, rfl, k F1 α1 H1 st1 hs1⟩⟩
theorem j_val (p : PE X a (tV X.K f)) (he : ∀ whole, isTrue a X.env whole = (do let v ← whole; standAt a.pos; holding [v] (truthy v)) := by intro _; rfl) : PT X a (tT X.K (tOf f)) := j_test (pt_val p he)
theorem j_and1 (p : PT X a (tT X.K t)) : PW X (.BoolOp .And [a] pos) (tT X.K t) := pw_and1 p
theorem j_or1 (p : PT X a (tT X.K t)) : PW X (.BoolOp .Or [a] pos) (tT X.K t) := pw_or1 p
theorem j_and (p : PT X a (tT X.K t)) (q : PW X (.BoolOp .And (b :: es) pos) (tT X.K u)) : PW X (.BoolOp .And (a :: b :: es) pos) (tT X.K (tAndJ t u)) := pw_weak (pw_and p q) fun σ H Q ⟨F, α, ρ, S, d, S', h1, h2, h3, k⟩ => by
  unfold tAndJ at h3
  split at h3
  · rename_i S1 e
    exact ⟨F, α, ρ, S, _, _, h1, h2, e, fun F1 α1 H1 st1 hs1 => iteT ⟨F1, α1, ρ, S1, d, S', hs1, h2.mono h1 st1, h3, fun F2 α2 H2 st2 hs2 => k F2 α2 H2 (st1.trans st2) hs2⟩⟩
  · rename_i S1 e
    cases h3
    exact ⟨F, α, ρ, S, _, _, h1, h2, e, fun F1 α1 H1 st1 hs1 => iteF (k F1 α1 H1 st1 hs1)⟩
  · cases h3
theorem j_or (p : PT X a (tT X.K t)) (q : PW X (.BoolOp .Or (b :: es) pos) (tT X.K u)) : PW X (.BoolOp .Or (a :: b :: es) pos) (tT X.K (tOrJ t u)) := pw_weak (pw_or p q) fun σ H Q ⟨F, α, ρ, S, d, S', h1, h2, h3, k⟩ => by
  unfold tOrJ at h3
  split at h3
  · rename_i S1 e
    cases h3
    exact ⟨F, α, ρ, S, _, _, h1, h2, e, fun F1 α1 H1 st1 hs1 => iteT (k F1 α1 H1 st1 hs1)⟩
  · rename_i S1 e
    exact ⟨F, α, ρ, S, _, _, h1, h2, e, fun F1 α1 H1 st1 hs1 => iteF ⟨F1, α1, ρ, S1, d, S', hs1, h2.mono h1 st1, h3, fun F2 α2 H2 st2 hs2 => k F2 α2 H2 (st1.trans st2) hs2⟩⟩
  · cases h3
theorem j_not (p : PT X a (tT X.K t)) : PT X (.UnaryOp .Not a pos) (tT X.K (tNotJ t)) := pt_weak (pt_not p) fun σ H Q ⟨F, α, ρ, S, d, S', h1, h2, h3, k⟩ => by
  unfold tNotJ at h3
  split at h3
  · rename_i b S1 e
    cases h3
    exact ⟨F, α, ρ, S, _, _, h1, h2, e, fun F1 α1 H1 st1 hs1 => k F1 α1 H1 st1 hs1⟩
  · cases h3
theorem j_one {op} (p : PE X a (tV X.K f)) : PE X (.BoolOp op [a] pos) (tV X.K f) := pe_one p
theorem j_andV (p : PE X a (tV X.K f)) (q : PE X (.BoolOp .And (b :: es) pos) (tV X.K g)) : PE X (.BoolOp .And (a :: b :: es) pos) (tV X.K (eAnd f g)) := pe_weak (pe_and p q) fun σ H Q ⟨F, α, ρ, S, d, S', h1, h2, h3, k⟩ => by
  unfold eAnd at h3
  split at h3
  · rename_i S1 e
    exact ⟨F, α, ρ, S, _, _, h1, h2, e, fun v F1 α1 H1 st1 hs1 rv => by cases rv; exact ⟨_, rfl, iteT ⟨F1, α1, ρ, S1, d, S', hs1, h2.mono h1 st1, h3, fun v F2 α2 H2 st2 hs2 => k v F2 α2 H2 (st1.trans st2) hs2⟩⟩⟩
  · rename_i S1 e
    cases h3
    exact ⟨F, α, ρ, S, _, _, h1, h2, e, fun v F1 α1 H1 st1 hs1 rv => by cases rv; exact ⟨_, rfl, iteF (k _ F1 α1 H1 st1 hs1 (.bl _))⟩⟩
  · cases h3
theorem j_orV (p : PE X a (tV X.K f)) (q : PE X (.BoolOp .Or (b :: es) pos) (tV X.K g)) : PE X (.BoolOp .Or (a :: b :: es) pos) (tV X.K (eOr f g)) := pe_weak (pe_or p q) fun σ H Q ⟨F, α, ρ, S, d, S', h1, h2, h3, k⟩ => by
  unfold eOr at h3
  split at h3
  · rename_i S1 e
    cases h3
    exact ⟨F, α, ρ, S, _, _, h1, h2, e, fun v F1 α1 H1 st1 hs1 rv => by cases rv; exact ⟨_, rfl, iteT (k _ F1 α1 H1 st1 hs1 (.bl _))⟩⟩
  · rename_i S1 e
    exact ⟨F, α, ρ, S, _, _, h1, h2, e, fun v F1 α1 H1 st1 hs1 rv => by cases rv; exact ⟨_, rfl, iteF ⟨F1, α1, ρ, S1, d, S', hs1, h2.mono h1 st1, h3, fun v F2 α2 H2 st2 hs2 => k v F2 α2 H2 (st1.trans st2) hs2⟩⟩⟩
  · cases h3
theorem j_notV (p : PE X a (tV X.K f)) : PE X (.UnaryOp .Not a pos) (tV X.K (eNot f)) := pe_weak (pe_not p) fun σ H Q ⟨F, α, ρ, S, d, S', h1, h2, h3, k⟩ => by
  unfold eNot at h3
  split at h3
  · rename_i b S1 e
    cases h3
    exact ⟨F, α, ρ, S, _, _, h1, h2, e, fun v F1 α1 H1 st1 hs1 rv => by cases rv; exact ⟨_, rfl, k _ F1 α1 H1 st1 hs1 (.bl _)⟩⟩
  · cases h3
theorem j_if (p : PT X c (tT X.K t)) (q : PE X a (tV X.K f)) (q2 : PE X b (tV X.K g)) : PE X (.IfExp c a b pos) (tV X.K (eIf t f g)) := pe_weak (pe_ifExp p q q2) fun σ H Q ⟨F, α, ρ, S, d, S', h1, h2, h3, k⟩ => by
  unfold eIf at h3
  split at h3
  · rename_i S1 e
    exact ⟨F, α, ρ, S, _, _, h1, h2, e, fun F1 α1 H1 st1 hs1 => iteT ⟨F1, α1, ρ, S1, d, S', hs1, h2.mono h1 st1, h3, fun v F2 α2 H2 st2 hs2 => k v F2 α2 H2 (st1.trans st2) hs2⟩⟩
  · rename_i S1 e
    exact ⟨F, α, ρ, S, _, _, h1, h2, e, fun F1 α1 H1 st1 hs1 => iteF ⟨F1, α1, ρ, S1, d, S', hs1, h2.mono h1 st1, h3, fun v F2 α2 H2 st2 hs2 => k v F2 α2 H2 (st1.trans st2) hs2⟩⟩
  · cases h3
end
end J

set_option maxHeartbeats 4000000
namespace J
open PySem PySem.Spec PyProof.Rows L2

section
variable {K : PySem.W.Frag} {F F' F2 : Addr → Prop} {α α' α2 : List Addr} {H H' H2 : Hp} {S S' : Store} {v : V} {d : D}
/-! ### what a value of a kind is -/
theorem Rw.int {i : Int} (r : Rw K F α H v (.int i)) : v = .int i := by cases r with | st r => cases r; rfl
theorem Rw.str {x : Str} (r : Rw K F α H v (.str x)) : v = .str x := by cases r with | st r => cases r; rfl
theorem Rw.bl {b : Bool} (r : Rw K F α H v (.bl b)) : v = .bl b := by cases r with | st r => cases r; rfl
theorem Rw.non (r : Rw K F α H v .non) : v = .non := by cases r with | st r => cases r; rfl
theorem Rw.lst' {xs : List D} (r : Rw K F α H v (.lst xs)) : ∃ a vs, v = .ref a ∧ H a = some (.lst vs) ∧ RpA K F α H vs xs := by
  cases r with
  | st r => cases r with | lst f h q => exact ⟨_, _, rfl, h, q⟩
  | lst h q => exact ⟨_, _, rfl, h, q⟩
theorem Rw.frz' {xs : List D} (r : Rw K F α H v (.frz xs)) : ∃ a vs, v = .ref a ∧ Fz K H a vs ∧ RpA K F α H vs xs := by
  cases r with
  | st r => cases r with | frz h q => exact ⟨_, _, rfl, h, q⟩
theorem Rw.tup' {xs : List D} (r : Rw K F α H v (.tup xs)) : ∃ a vs, v = .ref a ∧ H a = some (.tup vs) ∧ RpA K F α H vs xs := by
  cases r with
  | st r => cases r with | tup h q => exact ⟨_, _, rfl, h, q⟩
theorem Rw.obj' {n : Nat} (r : Rw K F α H v (.obj n)) : ∃ a, v = .ref a ∧ α[n]? = some a := by
  cases r with
  | st r => cases r with | obj h => exact ⟨_, rfl, h⟩
/-- the value itself -/
abbrev Post (K : PySem.W.Frag) (F : Addr → Prop) (α : List Addr) (H : Hp) (S : Store) (d : D) (Q : VK) : Prop := ∀ v F' α' H', Step F α H F' α' H' → StR K F' α' H' S → Rp K F' α' H' v d → Q v H'
theorem Post.here {Q : VK} (q : Post K F α H S d Q) (s : StR K F α H S) (r : Rp K F α H v d) : Q v H := q v F α H (Step.refl s) s r
/-- a new tuple, a new list -/
theorem Post.tup {Q : VK} {xs : List V} {ds : List D} (q : Post K F α H S (.tup ds) Q) (s : StR K F α H S) (r : RpA K F α H xs ds) : ∀ p, H p = none → Q (.ref p) (upd H p (.tup xs)) := fun p hp =>
  q _ F α _ (Step.new s hp) (s.new hp) (.tup upd_same (r.mono s (Step.new s hp)))
theorem Post.lst {Q : VK} {xs : List V} {ds : List D} (q : Post K F α H S (.lst ds) Q) (s : StR K F α H S) (r : RpA K F α H xs ds) : ∀ p, H p = none → Q (.ref p) (upd H p (.lst xs)) := fun p hp =>
  q _ _ α _ (Step.newF s hp) (s.newF hp) (.lst (.inr rfl) upd_same (r.mono s (Step.newF s hp)))
abbrev PostL (K : PySem.W.Frag) (F : Addr → Prop) (α : List Addr) (H : Hp) (S : Store) (ds : List D) (Q : VK) : Prop := ∀ a vs F' α' H', Step F α H F' α' H' → StR K F' α' H' S → H a = none → ¬ F' a → H' a = some (.lst vs) → RpA K F' α' H' vs ds → Q (.ref a) H'
theorem PostL.lst {Q : VK} {xs : List V} {ds : List D} (q : PostL K F α H S ds Q) (s : StR K F α H S) (r : RpA K F α H xs ds) : ∀ p, H p = none → Q (.ref p) (upd H p (.lst xs)) := fun p hp =>
  q _ xs F α _ (Step.new s hp) (s.new hp) hp (fun f => s.fa p f hp) upd_same (r.mono s (Step.new s hp))

theorem opr_or {X : Cx} {f : Value → Value → Sem Value} {r r' : R2} (h : OpR X f r) (h' : OpR X f r') : OpR X f (fun x y H Q => r x y H Q ∨ r' x y H Q) := by
  intro pins s σ H x y v u Q I rx ry q
  rcases q with q | q
  · exact h pins s σ H x y v u Q I rx ry q
  · exact h' pins s σ H x y v u Q I rx ry q
theorem callr_or {X : Cx} {f : Value} {r r' : List V → Hp → VK → Prop} (h : CallR X f r) (h' : CallR X f r') : CallR X f (fun x H Q => r x H Q ∨ r' x H Q) := by
  intro pins s σ H xs us Q I rx q
  rcases q with q | q
  · exact h pins s σ H xs us Q I rx q
  · exact h' pins s σ H xs us Q I rx q

/-! ### + - * // % ** -/
abbrev rAddS : R2 := fun x y H Q => ∃ i j, x = .str i ∧ y = .str j ∧ i.length + j.length ≤ sizeLine ∧ Q (.str (i ++ j)) H
abbrev rAdd0 (K : PySem.W.Frag) : R2 := fun x y H Q => (rI0 (fun i j => .int (i + j)) x y H Q ∨ rAddS x y H Q) ∨ (rCatA K x y H Q ∨ rCat x y H Q)
theorem op_addJ0 {X : Cx} : OpR X (binaryOp .Add) (rAdd0 X.K) := opr_or (opr_or op_add op_add_str) (opr_or op_catA op_cat)
def gAdd0 : D → D → Option D
  | .int i, .int j => some (.int (i + j))
  | .str x, .str y => if x.length + y.length ≤ sizeLine then some (.str (x ++ y)) else none
  | .tup xs, .tup ys => if xs.length + ys.length ≤ sizeLine then some (.tup (xs ++ ys)) else none
  | .lst xs, .lst ys => if xs.length + ys.length ≤ sizeLine then some (.lst (xs ++ ys)) else none
  | _, _ => none
theorem RpA.nil_of {vs : List V} {ds : List D} (r : RpA K F α H vs ds) (h : vs = []) : ds = [] := by subst h; cases r; rfl
theorem sp_add0 : Sp2 K (rAdd0 K) gAdd0 := by
  intro F α H S x y dx dy d Q s rx ry e q
  unfold gAdd0 at e
  split at e
  · cases e; cases rx.int; cases ry.int
    exact .inl (.inl ⟨_, _, rfl, rfl, Post.here q s (.int _)⟩)
  · split at e
    · cases e; cases rx.str; cases ry.str
      exact .inl (.inr ⟨_, _, rfl, rfl, by assumption, Post.here q s (.str _)⟩)
    · cases e
  · split at e
    · rename_i hz
      cases e
      obtain ⟨a, vs, rfl, ha, r1⟩ := rx.tup'
      obtain ⟨b, us, rfl, hb, r2⟩ := ry.tup'
      refine .inr (.inl ⟨a, b, vs, us, rfl, rfl, SqT.of ha, SqT.of hb, by rw [r1.length, r2.length]; exact hz, fun e => ?_, fun _ e => ?_, fun _ _ => Post.tup q s (r1.append r2)⟩)
      · rw [r1.nil_of e] at q
        exact Post.here q s (.tup hb r2)
      · rw [r2.nil_of e, List.append_nil] at q
        exact Post.here q s (.tup ha r1)
    · cases e
  · split at e
    · rename_i hz
      cases e
      obtain ⟨a, vs, rfl, ha, r1⟩ := rx.lst'
      obtain ⟨b, us, rfl, hb, r2⟩ := ry.lst'
      exact .inr (.inr ⟨a, b, vs, us, rfl, rfl, ha, hb, by rw [r1.length, r2.length]; exact hz, Post.lst q s (r1.append r2)⟩)
    · cases e
  · cases e
def gCatL : D → D → Option (List D)
  | .lst xs, .lst ys => if xs.length + ys.length ≤ sizeLine then some (xs ++ ys) else none
  | _, _ => none
theorem sp_catL0 : SpL2 K (rAdd0 K) gCatL := by
  intro F α H S x y dx dy d Q s rx ry e q
  unfold gCatL at e
  split at e
  · split at e
    · rename_i hz
      cases e
      obtain ⟨a, vs, rfl, ha, r1⟩ := rx.lst'
      obtain ⟨b, us, rfl, hb, r2⟩ := ry.lst'
      exact .inr (.inr ⟨a, b, vs, us, rfl, rfl, ha, hb, by rw [r1.length, r2.length]; exact hz, PostL.lst q s (r1.append r2)⟩)
    · cases e
  · cases e
/-! ### .. of a bool and an int -/
theorem gives_addBI (p : Bool) (b : Int) (u : Tok) : Gives (Builtin.«int.__gt__» ⟨[.bool p, .int b u], []⟩) (.val (Value.bool (decide (b < if p = true then (1 : Int) else 0)))) :=
  .of_wp fun M A E s Q h => by obtain ⟨hp, g, d, tk, os⟩ := s; wp_walk; exact ⟨_, rfl, h⟩
theorem gt_boolInt {prog : Program} {w : World} {A : Around} {E : Value → Shared → Prop} {s : Shared} {p : Bool} {b : Int} {u : Tok} {Q : Value → Shared → Prop} (h : Q (.bool (decide (b < if p = true then (1 : Int) else 0))) s) : wpAny (model prog w) A (compareOp .Gt (.bool p) (.int b u)) Q E s := by
  show wpAny _ A (richCompare .Gt _ _) Q E s
  exact wpAny_richCompare_left (typeIs_bool' s p) (typeIs_int s b u) (by decide) F.sub_int_bool F.slot_bool_gt (call_gives F.slot_bool_gt (typeIs_bool' s p) F.entry_int_gt (F.args_int_gt_2 _ _) (gives_addBI p b u) ⟨nofun, h⟩)
abbrev rAddB : R2 := fun x y H Q => ∃ (p : Bool) (j : Int), x = .bl p ∧ y = .int j ∧ Q (.int ((if p = true then (1 : Int) else 0) + j)) H
abbrev rGtB : R2 := fun x y H Q => ∃ (p : Bool) (j : Int), x = .bl p ∧ y = .int j ∧ Q (.bl (decide (j < if p = true then (1 : Int) else 0))) H
theorem op_addB {X : Cx} : OpR X (binaryOp .Add) rAddB := by
  intro pins s σ H x y v u Q I rx ry h
  obtain ⟨p, j, rfl, rfl, q⟩ := h
  cases rx
  obtain ⟨t, rfl⟩ := ry
  exact IntBool.add_bool_int ⟨.int _, H, I.tok _, ⟨_, rfl⟩, q⟩
theorem op_gtB {X : Cx} : OpR X (compareOp .Gt) rGtB := by
  intro pins s σ H x y v u Q I rx ry h
  obtain ⟨p, j, rfl, rfl, q⟩ := h
  cases rx
  obtain ⟨t, rfl⟩ := ry
  exact gt_boolInt ⟨.bl _, H, I, rfl, q⟩
abbrev rAdd (K : PySem.W.Frag) : R2 := fun x y H Q => rAdd0 K x y H Q ∨ rAddB x y H Q
theorem op_addJ {X : Cx} : OpR X (binaryOp .Add) (rAdd X.K) := opr_or op_addJ0 op_addB
def gAdd : D → D → Option D
  | .int i, .int j => some (.int (i + j))
  | .str x, .str y => if x.length + y.length ≤ sizeLine then some (.str (x ++ y)) else none
  | .tup xs, .tup ys => if xs.length + ys.length ≤ sizeLine then some (.tup (xs ++ ys)) else none
  | .lst xs, .lst ys => if xs.length + ys.length ≤ sizeLine then some (.lst (xs ++ ys)) else none
  | .bl p, .int j => some (.int ((if p = true then (1 : Int) else 0) + j))
  | _, _ => none
theorem sp_add : Sp2 K (rAdd K) gAdd := by
  intro F α H S x y dx dy d Q s rx ry e q
  have way : gAdd0 dx dy = some d ∨ ∃ p j, dx = .bl p ∧ dy = .int j ∧ d = .int ((if p = true then (1 : Int) else 0) + j) := by
    cases dx <;> cases dy <;> first | exact .inl e | (cases e; exact .inr ⟨_, _, rfl, rfl, rfl⟩)
  rcases way with h | ⟨p, j, rfl, rfl, rfl⟩
  · exact .inl (sp_add0 F α H S x y dx dy d Q s rx ry h q)
  · cases rx.bl; cases ry.int
    exact .inr ⟨p, j, rfl, rfl, Post.here q s (.int _)⟩
theorem sp_catL : SpL2 K (rAdd K) gCatL := fun F α H S x y dx dy ds Q s rx ry e q => .inl (sp_catL0 F α H S x y dx dy ds Q s rx ry e q)

/-- ints -/
def gI (C : Int → Int → Prop) [∀ i j, Decidable (C i j)] (g : Int → Int → Int) : D → D → Option D
  | .int i, .int j => if C i j then some (.int (g i j)) else none
  | _, _ => none
theorem sp_I {C : Int → Int → Prop} [∀ i j, Decidable (C i j)] {g : Int → Int → Int} : Sp2 K (rI C fun i j => .int (g i j)) (gI C g) := by
  intro F α H S x y dx dy d Q s rx ry e q
  unfold gI at e
  split at e
  · split at e
    · cases e; cases rx.int; cases ry.int
      exact ⟨_, _, rfl, rfl, by assumption, Post.here q s (.int _)⟩
    · cases e
  · cases e
def gI0 (g : Int → Int → Int) : D → D → Option D
  | .int i, .int j => some (.int (g i j))
  | _, _ => none
theorem sp_I0 {g : Int → Int → Int} : Sp2 K (rI0 fun i j => .int (g i j)) (gI0 g) := by
  intro F α H S x y dx dy d Q s rx ry e q
  unfold gI0 at e
  split at e
  · cases e; cases rx.int; cases ry.int
    exact ⟨_, _, rfl, rfl, Post.here q s (.int _)⟩
  · cases e
instance : ∀ i j, Decidable (CDivW i j) := fun i j => by unfold CDivW; exact inferInstance
instance : ∀ i j, Decidable (CMulW i j) := fun i j => by unfold CMulW; exact inferInstance
instance : ∀ i j, Decidable (CPow i j) := fun i j => by unfold CPow; exact inferInstance
def CPos (_ j : Int) : Prop := 0 < j
instance : ∀ i j, Decidable (CPos i j) := fun i j => by unfold CPos; exact inferInstance
def gNeg : D → Option D
  | .int i => some (.int (-i))
  | _ => none
theorem sp_neg : Sp1 K (rU fun i => .int (-i)) gNeg := by
  intro F α H S x dx d Q s rx e q
  unfold gNeg at e
  split at e
  · cases e; cases rx.int
    exact ⟨_, rfl, Post.here q s (.int _)⟩
  · cases e

/-! ### order: ints, texts, tuples of ints -/
abbrev rLtS : R2 := fun x y H Q => ∃ i j, x = .str i ∧ y = .str j ∧ Q (.bl (decide (i.cps.toList < j.cps.toList))) H
def ints? : List D → Option (List Int)
  | [] => some []
  | .int i :: r => (ints? r).map (i :: ·)
  | _ => none
theorem ints_of : ∀ {vs : List V} {ds : List D} {ns : List Int}, RpA K F α H vs ds → ints? ds = some ns → vs = ns.map V.int
  | _, _, _, .nil, e => by cases e; rfl
  | _, _, _, .cons (d := d) (ds := ds) h r, e => by
    cases d with
    | int i =>
      unfold ints? at e
      cases q : ints? ds with
      | none => rw [q] at e; cases e
      | some ns => rw [q] at e; cases e; cases h; rw [ints_of r q]; rfl
    | _ => unfold ints? at e; cases e
def gLt : D → D → Option D
  | .int i, .int j => some (.bl (decide (i < j)))
  | .str x, .str y => some (.bl (decide (x.cps.toList < y.cps.toList)))
  | .tup xs, .tup ys => match ints? xs, ints? ys with | some ns, some ms => some (.bl (HT.lexLt ns ms)) | _, _ => none
  | _, _ => none
abbrev rLt (K : PySem.W.Frag) : R2 := fun x y H Q => (rI0 (fun i j => .bl (decide (i < j))) x y H Q ∨ rLtS x y H Q) ∨ rLtT K x y H Q
theorem op_ltJ {X : Cx} (hu : X.A.units < cLine) : OpR X (compareOp .Lt) (rLt X.K) := opr_or (opr_or op_lt op_lt_str) (op_ltT hu)
theorem sp_lt : Sp2 K (rLt K) gLt := by
  intro F α H S x y dx dy d Q s rx ry e q
  unfold gLt at e
  split at e
  · cases e; cases rx.int; cases ry.int
    exact .inl (.inl ⟨_, _, rfl, rfl, Post.here q s (.bl _)⟩)
  · cases e; cases rx.str; cases ry.str
    exact .inl (.inr ⟨_, _, rfl, rfl, Post.here q s (.bl _)⟩)
  · split at e
    · rename_i e1 e2
      cases e
      obtain ⟨a, vs, rfl, ha, r1⟩ := rx.tup'
      obtain ⟨b, us, rfl, hb, r2⟩ := ry.tup'
      rw [ints_of r1 e1] at ha
      rw [ints_of r2 e2] at hb
      exact .inr ⟨a, b, _, _, rfl, rfl, SqT.of ha, SqT.of hb, Post.here q s (.bl _)⟩
    · cases e
  · cases e
/-- <=, >, >= : ints and texts -/
def gOrd (gi : Int → Int → Bool) (gs : Str → Str → Bool) : D → D → Option D
  | .int i, .int j => some (.bl (gi i j))
  | .str x, .str y => some (.bl (gs x y))
  | _, _ => none
abbrev rOrd (gi : Int → Int → Bool) (gs : Str → Str → Bool) : R2 := fun x y H Q => rI0 (fun i j => .bl (gi i j)) x y H Q ∨ ∃ i j, x = .str i ∧ y = .str j ∧ Q (.bl (gs i j)) H
theorem sp_ord {gi : Int → Int → Bool} {gs : Str → Str → Bool} : Sp2 K (rOrd gi gs) (gOrd gi gs) := by
  intro F α H S x y dx dy d Q s rx ry e q
  unfold gOrd at e
  split at e
  · cases e; cases rx.int; cases ry.int
    exact .inl ⟨_, _, rfl, rfl, Post.here q s (.bl _)⟩
  · cases e; cases rx.str; cases ry.str
    exact .inr ⟨_, _, rfl, rfl, Post.here q s (.bl _)⟩
  · cases e
abbrev gLe : D → D → Option D := gOrd (fun i j => decide (i ≤ j)) fun i j => !decide (j.cps.toList < i.cps.toList)
abbrev gGe : D → D → Option D := gOrd (fun i j => decide (j ≤ i)) fun i j => !decide (i.cps.toList < j.cps.toList)
abbrev gGt0 : D → D → Option D := gOrd (fun i j => decide (j < i)) fun i j => decide (j.cps.toList < i.cps.toList)
def gGt : D → D → Option D
  | .int i, .int j => some (.bl (decide (j < i)))
  | .str i, .str j => some (.bl (decide (j.cps.toList < i.cps.toList)))
  | .bl p, .int j => some (.bl (decide (j < if p = true then (1 : Int) else 0)))
  | _, _ => none
theorem op_leJ {X : Cx} : OpR X (compareOp .LtE) (rOrd (fun i j => decide (i ≤ j)) fun i j => !decide (j.cps.toList < i.cps.toList)) := opr_or op_le op_le_str
abbrev rGt : R2 := fun x y H Q => rOrd (fun i j => decide (j < i)) (fun i j => decide (j.cps.toList < i.cps.toList)) x y H Q ∨ rGtB x y H Q
theorem op_gtJ {X : Cx} : OpR X (compareOp .Gt) rGt := opr_or (opr_or op_gt op_gt_str) op_gtB
theorem sp_gt : Sp2 K rGt gGt := by
  intro F α H S x y dx dy d Q s rx ry e q
  have way : gGt0 dx dy = some d ∨ ∃ p j, dx = .bl p ∧ dy = .int j ∧ d = .bl (decide (j < if p = true then (1 : Int) else 0)) := by
    cases dx <;> cases dy <;> first | exact .inl e | (cases e; exact .inr ⟨_, _, rfl, rfl, rfl⟩)
  rcases way with h | ⟨p, j, rfl, rfl, rfl⟩
  · exact .inl (sp_ord F α H S x y dx dy d Q s rx ry h q)
  · cases rx.bl; cases ry.int
    exact .inr ⟨p, j, rfl, rfl, Post.here q s (.bl _)⟩
theorem op_geJ {X : Cx} : OpR X (compareOp .GtE) (rOrd (fun i j => decide (j ≤ i)) fun i j => !decide (i.cps.toList < j.cps.toList)) := opr_or op_ge op_ge_str

/-! ### == and != , in and not in -/
mutual
/-- data without objects and frozen lists -/
def toPy : D → Option PyData
  | .non => some .none
  | .bl b => some (.bool b)
  | .int i => some (.int i)
  | .str x => some (.str x)
  | .lst xs => match toPys xs with | some ys => some (.list ys) | none => none
  | .tup xs => match toPys xs with | some ys => some (.tuple ys) | none => none
  | .frz _ => none
  | .obj _ => none
def toPys : List D → Option (List PyData)
  | [] => some []
  | x :: xs => match toPy x, toPys xs with | some y, some ys => some (y :: ys) | _, _ => none
end
mutual
theorem Rp.dp : ∀ {v : V} {d : D} {e : PyData}, Rp K F α H v d → toPy d = some e → Dp K H v e
  | _, _, _, .non, e => by unfold toPy at e; cases e; exact .non
  | _, _, _, .bl b, e => by unfold toPy at e; cases e; exact .bl b
  | _, _, _, .int b, e => by unfold toPy at e; cases e; exact .int b
  | _, _, _, .str b, e => by unfold toPy at e; cases e; exact .str b
  | _, _, _, .lst f h r, e => by
    unfold toPy at e
    split at e
    · rename_i q; cases e; exact .lst (SqL.of h) (RpA.dp r q)
    · cases e
  | _, _, _, .tup h r, e => by
    unfold toPy at e
    split at e
    · rename_i q; cases e; exact .tup (SqT.of h) (RpA.dp r q)
    · cases e
  | _, _, _, .frz h r, e => by unfold toPy at e; cases e
  | _, _, _, .obj h, e => by unfold toPy at e; cases e
theorem RpA.dp : ∀ {vs : List V} {ds : List D} {es : List PyData}, RpA K F α H vs ds → toPys ds = some es → DpAll K H vs es
  | _, _, _, .nil, e => by unfold toPys at e; cases e; exact .nil
  | _, _, _, .cons h r, e => by
    unfold toPys at e
    split at e
    · rename_i q1 q2; cases e; exact .cons (Rp.dp h q1) (RpA.dp r q2)
    · cases e
end
theorem Rw.dp {e : PyData} (r : Rw K F α H v d) (q : toPy d = some e) : Dp K H v e := by
  cases r with
  | st r => exact r.dp q
  | lst h r =>
    unfold toPy at q
    split at q
    · rename_i q'; cases q; exact .lst (SqL.of h) (RpA.dp r q')
    · cases q
def gEq (neg : Bool) (x y : D) : Option D := match toPy x, toPy y with
  | some a, some b => if SeqAt.shaped a = true ∧ SeqAt.shaped b = true then some (.bl (if neg then !PyData.eqv a b else PyData.eqv a b)) else none
  | _, _ => none
theorem sp_eq : Sp2 K (rEqD K) (gEq false) := by
  intro F α H S x y dx dy d Q s rx ry e q
  unfold gEq at e
  split at e
  · split at e
    · rename_i h1 h2 hs
      cases e
      exact ⟨_, _, rx.dp h1, ry.dp h2, hs.1, hs.2, Post.here q s (.bl _)⟩
    · cases e
  · cases e
theorem sp_ne : Sp2 K (rNeD K) (gEq true) := by
  intro F α H S x y dx dy d Q s rx ry e q
  unfold gEq at e
  split at e
  · split at e
    · rename_i h1 h2 hs
      cases e
      exact ⟨_, _, rx.dp h1, ry.dp h2, hs.1, hs.2, Post.here q s (.bl _)⟩
    · cases e
  · cases e
/-- x in a list, a tuple of data; in a text -/
def rInA (K : PySem.W.Frag) (neg : Bool) : R2 := fun x y H Q => (∃ (d : PyData) (ds : List PyData), Dp K H x d ∧ (Dp K H y (.list ds) ∨ Dp K H y (.tuple ds)) ∧ SeqAt.shaped d = true ∧ SeqAt.shaped (.list ds) = true ∧ Q (.bl (if neg then !ds.any fun z => PyData.eqv z d else ds.any fun z => PyData.eqv z d)) H) ∨
  ∃ i j, x = .str i ∧ y = .str j ∧ Q (.bl (if neg then !(!(Builtin.Str.occurrences j i 0 j.length 1).isEmpty) else !(Builtin.Str.occurrences j i 0 j.length 1).isEmpty)) H
theorem op_inJ {X : Cx} (hu : X.A.units + 65 < cLine) : OpR X (compareOp .In) (rInA X.K false) := by
  intro pins s σ H x y v u Q I rx ry h
  rcases h with ⟨d, ds, hd, he, sd, se, q⟩ | h
  · obtain ⟨as, r1⟩ := Dp.reads I d x v hd rx
    rcases he with he | he
    · obtain ⟨bs, r2⟩ := Dp.reads I (.list ds) y u he ry
      exact SeqAt.in_list_reads r2 r1 (SeqAt.canLay_of_shaped se) (SeqAt.canLay_of_shaped sd) (room_in_shaped sd hu) ⟨.bl _, H, I, rfl, q⟩
    · obtain ⟨bs, r2⟩ := Dp.reads I (.tuple ds) y u he ry
      exact SeqAt.in_tuple_reads r2 r1 (SeqAt.canLay_of_shaped se) (SeqAt.canLay_of_shaped sd) (room_in_shaped sd hu) ⟨.bl _, H, I, rfl, q⟩
  · exact op_in_str pins s σ H x y v u Q I rx ry h
theorem op_notInJ {X : Cx} (hu : X.A.units + 65 < cLine) : OpR X (compareOp .NotIn) (rInA X.K true) := by
  intro pins s σ H x y v u Q I rx ry h
  rcases h with ⟨d, ds, hd, he, sd, se, q⟩ | h
  · obtain ⟨as, r1⟩ := Dp.reads I d x v hd rx
    rcases he with he | he
    · obtain ⟨bs, r2⟩ := Dp.reads I (.list ds) y u he ry
      exact SeqAt.notIn_list_reads r2 r1 (SeqAt.canLay_of_shaped se) (SeqAt.canLay_of_shaped sd) (room_in_shaped sd hu) ⟨.bl _, H, I, rfl, q⟩
    · obtain ⟨bs, r2⟩ := Dp.reads I (.tuple ds) y u he ry
      exact SeqAt.notIn_tuple_reads r2 r1 (SeqAt.canLay_of_shaped se) (SeqAt.canLay_of_shaped sd) (room_in_shaped sd hu) ⟨.bl _, H, I, rfl, q⟩
  · exact op_notIn_str pins s σ H x y v u Q I rx ry h
def gInD (neg : Bool) (x : PyData) (ys : List PyData) : Option D := if SeqAt.shaped x = true ∧ SeqAt.shaped (.list ys) = true then some (.bl (if neg then !ys.any fun z => PyData.eqv z x else ys.any fun z => PyData.eqv z x)) else none
def gIn (neg : Bool) (x y : D) : Option D := match x, y with
  | .str i, .str j => some (.bl (if neg then !(!(Builtin.Str.occurrences j i 0 j.length 1).isEmpty) else !(Builtin.Str.occurrences j i 0 j.length 1).isEmpty))
  | x, .lst ys => match toPy x, toPys ys with | some a, some bs => gInD neg a bs | _, _ => none
  | x, .tup ys => match toPy x, toPys ys with | some a, some bs => gInD neg a bs | _, _ => none
  | _, _ => none
theorem sp_in {neg : Bool} : Sp2 K (rInA K neg) (gIn neg) := by
  intro F α H S x y dx dy d Q s rx ry e q
  unfold gIn at e
  split at e
  · cases e; cases rx.str; cases ry.str
    exact .inr ⟨_, _, rfl, rfl, Post.here q s (.bl _)⟩
  · split at e
    · rename_i h1 h2
      unfold gInD at e
      split at e
      · rename_i hs
        cases e
        refine .inl ⟨_, _, rx.dp h1, .inl (ry.dp (by unfold toPy; rw [h2])), hs.1, hs.2, Post.here q s (.bl _)⟩
      · cases e
    · cases e
  · split at e
    · rename_i h1 h2
      unfold gInD at e
      split at e
      · rename_i hs
        cases e
        refine .inl ⟨_, _, rx.dp h1, .inr (ry.dp (by unfold toPy; rw [h2])), hs.1, hs.2, Post.here q s (.bl _)⟩
      · cases e
    · cases e
  · cases e
/-- is None, is not None -/
def gIs (neg : Bool) (x y : D) : Option D := match y, x with
  | .non, .non => some (.bl (!neg))
  | .non, _ => some (.bl neg)
  | _, _ => none
theorem Rw.notNon (r : Rw K F α H v d) (h : d ≠ .non) : v ≠ .non := fun e => by
  subst e
  cases r with
  | st r => cases r; exact h rfl
theorem sp_is : Sp2 K (fun x y H Q => y = .non ∧ Q (.bl (decide (x = .non))) H) (gIs false) := by
  intro F α H S x y dx dy d Q s rx ry e q
  unfold gIs at e
  split at e
  · cases e; cases rx.non; cases ry.non
    exact ⟨rfl, Post.here q s (.bl _)⟩
  · rename_i h
    cases e; cases ry.non
    refine ⟨rfl, ?_⟩
    rw [decide_eq_false (rx.notNon h)]
    exact Post.here q s (.bl _)
  · cases e
theorem sp_isnt : Sp2 K (fun x y H Q => y = .non ∧ Q (.bl (!decide (x = .non))) H) (gIs true) := by
  intro F α H S x y dx dy d Q s rx ry e q
  unfold gIs at e
  split at e
  · cases e; cases rx.non; cases ry.non
    exact ⟨rfl, Post.here q s (.bl _)⟩
  · rename_i h
    cases e; cases ry.non
    refine ⟨rfl, ?_⟩
    rw [decide_eq_false (rx.notNon h)]
    exact Post.here q s (.bl _)
  · cases e
end
end J

set_option maxHeartbeats 4000000
namespace J
open PySem PySem.Spec PyProof.Rows L2

section
variable {K : PySem.W.Frag} {F F' F2 : Addr → Prop} {α α' α2 : List Addr} {H H' H2 : Hp} {S S' : Store} {v : V} {d : D}
/-! ### lists and tuples as they are read -/
theorem Rw.seqL {xs : List D} (r : Rw K F α H v (.lst xs)) : ∃ a vs, v = .ref a ∧ SqL K H a vs ∧ RpA K F α H vs xs := by
  obtain ⟨a, vs, e, h, q⟩ := r.lst'
  exact ⟨a, vs, e, SqL.of h, q⟩
theorem Rw.seqF {xs : List D} (r : Rw K F α H v (.frz xs)) : ∃ a vs, v = .ref a ∧ SqL K H a vs ∧ RpA K F α H vs xs := by
  obtain ⟨a, vs, e, h, q⟩ := r.frz'
  exact ⟨a, vs, e, h.seq, q⟩
theorem Rw.seqT {xs : List D} (r : Rw K F α H v (.tup xs)) : ∃ a vs, v = .ref a ∧ SqT K H a vs ∧ RpA K F α H vs xs := by
  obtain ⟨a, vs, e, h, q⟩ := r.tup'
  exact ⟨a, vs, e, SqT.of h, q⟩

/-! ### o[i] -/
def gIx : D → D → Option D
  | .lst xs, .int i => atI xs i
  | .frz xs, .int i => atI xs i
  | .tup xs, .int i => atI xs i
  | .str z, .int i => if z.length ≤ sizeLine then (atI z.cps.toList i).map fun c => .str ⟨#[c]⟩ else none
  | _, _ => none
theorem atI_rp {vs : List V} {ds : List D} {i : Int} {d : D} (r : RpA K F α H vs ds) (e : atI ds i = some d) : ∃ v, atI vs i = some v ∧ Rp K F α H v d := by
  unfold atI at e ⊢
  rw [← r.length] at e
  cases q : ixN vs.length i with
  | none => rw [q] at e; cases e
  | some j =>
    rw [q] at e
    obtain ⟨v, h1, h2⟩ := r.getD (show ds[j]? = some d from e)
    exact ⟨v, h1, h2⟩
theorem sp_ix : Sp2 K (rIx K) gIx := by
  intro F α H S x y dx dy d Q s rx ry e q
  unfold gIx at e
  split at e
  · cases ry.int
    obtain ⟨a, vs, rfl, ha, r1⟩ := rx.seqL
    obtain ⟨v, e1, r⟩ := atI_rp r1 e
    exact .inl ⟨a, vs, _, v, rfl, rfl, ha, e1, Post.here q s r⟩
  · cases ry.int
    obtain ⟨a, vs, rfl, ha, r1⟩ := rx.seqF
    obtain ⟨v, e1, r⟩ := atI_rp r1 e
    exact .inl ⟨a, vs, _, v, rfl, rfl, ha, e1, Post.here q s r⟩
  · cases ry.int
    obtain ⟨a, vs, rfl, ha, r1⟩ := rx.seqT
    obtain ⟨v, e1, r⟩ := atI_rp r1 e
    exact .inr (.inl ⟨a, vs, _, v, rfl, rfl, ha, e1, Post.here q s r⟩)
  · split at e
    · rename_i hz
      cases ry.int
      cases rx.str
      rename_i z i
      cases e1 : atI z.cps.toList i with
      | none => rw [e1] at e; cases e
      | some c =>
        rw [e1] at e
        cases e
        exact .inr (.inr ⟨z, i, c, rfl, rfl, hz, e1, Post.here q s (.str _)⟩)
    · cases e
  · cases e

/-! ### len, list, tuple, int, str, all, any, sorted -/
def gLen : List D → Option D
  | [.lst xs] => some (.int xs.length)
  | [.frz xs] => some (.int xs.length)
  | [.tup xs] => some (.int xs.length)
  | [.str z] => if z.length ≤ sizeLine then some (.int z.length) else none
  | _ => none
abbrev rLenJ (K : PySem.W.Frag) : List V → Hp → VK → Prop := fun xs H Q => (∃ p ys, xs = [.ref p] ∧ (SqL K H p ys ∨ SqT K H p ys) ∧ Q (.int ys.length) H) ∨ ∃ z, xs = [.str z] ∧ z.length ≤ sizeLine ∧ Q (.int z.length) H
theorem call_lenJ {X : Cx} : CallR X (.builtin "len") (rLenJ X.K) := callr_or call_len_seq call_len_str
theorem RwA.one {xs : List V} {d : D} (r : RwA K F α H xs [d]) : ∃ v, xs = [v] ∧ Rw K F α H v d := by
  cases r with
  | cons h r => cases r; exact ⟨_, rfl, h⟩
theorem sp_len : SpC K (rLenJ K) gLen := by
  intro F α H S xs dxs d Q s rx e q
  unfold gLen at e
  split at e
  · cases e
    obtain ⟨v, rfl, r⟩ := rx.one
    obtain ⟨a, vs, rfl, ha, r1⟩ := r.seqL
    refine .inl ⟨a, vs, rfl, .inl ha, ?_⟩
    rw [r1.length]
    exact Post.here q s (.int _)
  · cases e
    obtain ⟨v, rfl, r⟩ := rx.one
    obtain ⟨a, vs, rfl, ha, r1⟩ := r.seqF
    refine .inl ⟨a, vs, rfl, .inl ha, ?_⟩
    rw [r1.length]
    exact Post.here q s (.int _)
  · cases e
    obtain ⟨v, rfl, r⟩ := rx.one
    obtain ⟨a, vs, rfl, ha, r1⟩ := r.seqT
    refine .inl ⟨a, vs, rfl, .inr ha, ?_⟩
    rw [r1.length]
    exact Post.here q s (.int _)
  · split at e
    · cases e
      obtain ⟨v, rfl, r⟩ := rx.one
      cases r.str
      exact .inr ⟨_, rfl, by assumption, Post.here q s (.int _)⟩
    · cases e
  · cases e
/-- list(x): a new list -/
def gListL : List D → Option (List D)
  | [.lst xs] => some xs
  | [.frz xs] => some xs
  | [.tup xs] => some xs
  | _ => none
abbrev rListJ (K : PySem.W.Frag) : List V → Hp → VK → Prop := fun xs H Q => ∃ p ys, xs = [.ref p] ∧ (SqL K H p ys ∨ SqT K H p ys) ∧ ∀ l, H l = none → Q (.ref l) (upd H l (.lst ys))
theorem sp_listL : SpCL K (rListJ K) gListL := by
  intro F α H S xs dxs d Q s rx e q
  unfold gListL at e
  split at e
  · cases e
    obtain ⟨v, rfl, r⟩ := rx.one
    obtain ⟨a, vs, rfl, ha, r1⟩ := r.seqL
    exact ⟨a, vs, rfl, .inl ha, PostL.lst q s r1⟩
  · cases e
    obtain ⟨v, rfl, r⟩ := rx.one
    obtain ⟨a, vs, rfl, ha, r1⟩ := r.seqF
    exact ⟨a, vs, rfl, .inl ha, PostL.lst q s r1⟩
  · cases e
    obtain ⟨v, rfl, r⟩ := rx.one
    obtain ⟨a, vs, rfl, ha, r1⟩ := r.seqT
    exact ⟨a, vs, rfl, .inr ha, PostL.lst q s r1⟩
  · cases e
def gTuple : List D → Option D
  | [.lst xs] => some (.tup xs)
  | [.frz xs] => some (.tup xs)
  | [.tup xs] => some (.tup xs)
  | _ => none
abbrev rTupleJ (K : PySem.W.Frag) : List V → Hp → VK → Prop := fun xs H Q => ∃ p ys, xs = [.ref p] ∧ ((SqL K H p ys ∧ ∀ l, H l = none → Q (.ref l) (upd H l (.tup ys))) ∨ (SqT K H p ys ∧ Q (.ref p) H))
theorem sp_tuple : SpC K (rTupleJ K) gTuple := by
  intro F α H S xs dxs d Q s rx e q
  unfold gTuple at e
  split at e
  · cases e
    obtain ⟨v, rfl, r⟩ := rx.one
    obtain ⟨a, vs, rfl, ha, r1⟩ := r.seqL
    exact ⟨a, vs, rfl, .inl ⟨ha, Post.tup q s r1⟩⟩
  · cases e
    obtain ⟨v, rfl, r⟩ := rx.one
    obtain ⟨a, vs, rfl, ha, r1⟩ := r.seqF
    exact ⟨a, vs, rfl, .inl ⟨ha, Post.tup q s r1⟩⟩
  · cases e
    obtain ⟨v, rfl, r⟩ := rx.one
    obtain ⟨a, vs, rfl, ha, r1⟩ := r.tup'
    exact ⟨a, vs, rfl, .inr ⟨SqT.of ha, Post.here q s (.tup ha r1)⟩⟩
  · cases e
def gInt : List D → Option D
  | [.int i] => some (.int i)
  | [.bl k] => some (.int (if k then 1 else 0))
  | _ => none
abbrev rIntJ : List V → Hp → VK → Prop := fun xs H Q => (∃ i, xs = [.int i] ∧ Q (.int i) H) ∨ ∃ k, xs = [.bl k] ∧ Q (.int (if k then 1 else 0)) H
theorem sp_int : SpC K rIntJ gInt := by
  intro F α H S xs dxs d Q s rx e q
  unfold gInt at e
  split at e
  · cases e
    obtain ⟨v, rfl, r⟩ := rx.one
    cases r.int
    exact .inl ⟨_, rfl, Post.here q s (.int _)⟩
  · cases e
    obtain ⟨v, rfl, r⟩ := rx.one
    cases r.bl
    exact .inr ⟨_, rfl, Post.here q s (.int _)⟩
  · cases e
def gStr : List D → Option D
  | [.int i] => if i.natAbs.log2 < 1920 then some (.str (toString i)) else none
  | _ => none
abbrev rStrJ : List V → Hp → VK → Prop := fun xs H Q => ∃ i : Int, xs = [.int i] ∧ i.natAbs.log2 < 1920 ∧ Q (.str (toString i)) H
theorem sp_str : SpC K rStrJ gStr := by
  intro F α H S xs dxs d Q s rx e q
  unfold gStr at e
  split at e
  · split at e
    · cases e
      obtain ⟨v, rfl, r⟩ := rx.one
      cases r.int
      exact ⟨_, rfl, by assumption, Post.here q s (.str _)⟩
    · cases e
  · cases e
def bls? : List D → Option (List Bool)
  | [] => some []
  | .bl b :: r => (bls? r).map (b :: ·)
  | _ => none
theorem bls_of : ∀ {vs : List V} {ds : List D} {ns : List Bool}, RpA K F α H vs ds → bls? ds = some ns → vs = ns.map V.bl
  | _, _, _, .nil, e => by cases e; rfl
  | _, _, _, .cons (d := d) (ds := ds) h r, e => by
    cases d with
    | bl i =>
      unfold bls? at e
      cases q : bls? ds with
      | none => rw [q] at e; cases e
      | some ns => rw [q] at e; cases e; cases h; rw [bls_of r q]; rfl
    | _ => unfold bls? at e; cases e
def gAll : List D → Option D
  | [.lst xs] => (bls? xs).map fun bs => .bl (bs.all id)
  | _ => none
def gAny : List D → Option D
  | [.lst xs] => (bls? xs).map fun bs => .bl (bs.any id)
  | _ => none
theorem sp_all : SpC K (rAll K) gAll := by
  intro F α H S xs dxs d Q s rx e q
  unfold gAll at e
  split at e
  · rename_i ys
    cases e1 : bls? ys with
    | none => rw [e1] at e; cases e
    | some bs =>
      rw [e1] at e; cases e
      obtain ⟨v, rfl, r⟩ := rx.one
      obtain ⟨a, vs, rfl, ha, r1⟩ := r.seqL
      rw [bls_of r1 e1] at ha
      exact ⟨a, bs, rfl, ha, Post.here q s (.bl _)⟩
  · cases e
theorem sp_any : SpC K (rAny K) gAny := by
  intro F α H S xs dxs d Q s rx e q
  unfold gAny at e
  split at e
  · rename_i ys
    cases e1 : bls? ys with
    | none => rw [e1] at e; cases e
    | some bs =>
      rw [e1] at e; cases e
      obtain ⟨v, rfl, r⟩ := rx.one
      obtain ⟨a, vs, rfl, ha, r1⟩ := r.seqL
      rw [bls_of r1 e1] at ha
      exact ⟨a, bs, rfl, ha, Post.here q s (.bl _)⟩
  · cases e
def strs? : List D → Option (List Str)
  | [] => some []
  | .str b :: r => (strs? r).map (b :: ·)
  | _ => none
theorem strs_of : ∀ {vs : List V} {ds : List D} {ns : List Str}, RpA K F α H vs ds → strs? ds = some ns → vs = ns.map V.str
  | _, _, _, .nil, e => by cases e; rfl
  | _, _, _, .cons (d := d) (ds := ds) h r, e => by
    cases d with
    | str i =>
      unfold strs? at e
      cases q : strs? ds with
      | none => rw [q] at e; cases e
      | some ns => rw [q] at e; cases e; cases h; rw [strs_of r q]; rfl
    | _ => unfold strs? at e; cases e
theorem RpA.strs : ∀ (ys : List Str), RpA K F α H (ys.map V.str) (ys.map D.str)
  | [] => .nil
  | y :: ys => .cons (.str y) (RpA.strs ys)
theorem RpA.ints : ∀ (ys : List Int), RpA K F α H (ys.map V.int) (ys.map D.int)
  | [] => .nil
  | y :: ys => .cons (.int y) (RpA.ints ys)

/-! ### the forms -/
variable {X : Cx} {a b c e : Expr} {es : List Expr} {f g h : EX} {r : EL} {pos p : Pos} {x : Str}
theorem aGL_some {ρ : Env} {ds : List D} {g : List D → Option (List D)} (q : (match r ρ S with | some (xs, S1) => (match g xs with | some z => some (z, S1) | none => none) | none => none) = some (ds, S')) : ∃ xs, r ρ S = some (xs, S') ∧ g xs = some ds := by
  split at q
  · split at q
    · cases q; exact ⟨_, by assumption, by assumption⟩
    · cases q
  · cases q
def aGL (g : List D → Option (List D)) (r : EL) : EL := fun ρ S => match r ρ S with | some (xs, S1) => (match g xs with | some z => some (z, S1) | none => none) | none => none
theorem j_cbL {e : Expr} {q : List V → Hp → VK → Prop} {g : List D → Option (List D)} (sp : SpCL X.K q g) (raw : PE X e (tCB q (tWs X.K r))) : PE X e (tL X.K (aGL g r)) := pe_weak raw fun σ H Q ⟨F, α, ρ, S, d, S', h1, h2, h3, k⟩ => by
  obtain ⟨xs, a1, a3⟩ := aGL_some h3
  exact ⟨F, α, ρ, S, xs, _, h1, h2, a1, fun v F1 α1 H1 st1 hs1 rv => sp F1 α1 H1 _ v xs d Q hs1 rv a3 fun a vs F3 α3 H3 st3 hs3 hn nf hl rv3 => k a vs F3 α3 H3 (st1.trans st3) hs3 (st1.back hn) nf hl rv3⟩

/-- a tuple, a list of written items -/
def eTup (r : EL) : EX := fun ρ S => match r ρ S with | some (xs, S1) => if xs.length ≤ sizeLine then some (.tup xs, S1) else none | none => none
def lDisp (r : EL) : EL := fun ρ S => match r ρ S with | some (xs, S1) => if xs.length ≤ sizeLine then some (xs, S1) else none | none => none
theorem j_tup {k : Nat} (q : PA X es (tVs X.K r)) : PE X (.Tuple es k pos) (tV X.K (eTup r)) := pe_weak (pe_tup q) fun σ H Q ⟨F, α, ρ, S, d, S', h1, h2, h3, k⟩ => by
  unfold eTup at h3
  split at h3
  · split at h3
    · rename_i xs S1 e hz
      cases h3
      exact ⟨F, α, ρ, S, xs, _, h1, h2, e, fun vs F1 α1 H1 st1 hs1 rv => ⟨by rw [rv.length]; exact hz, Post.tup (fun v F' α' H' st hs r => k v F' α' H' (st1.trans st) hs r) hs1 rv⟩⟩
    · cases h3
  · cases h3
theorem j_disp (q : PA X es (tVs X.K r)) : PE X (.List es pos) (tL X.K (lDisp r)) := pe_weak (pe_lst q) fun σ H Q ⟨F, α, ρ, S, d, S', h1, h2, h3, k⟩ => by
  unfold lDisp at h3
  split at h3
  · split at h3
    · rename_i xs S1 e hz
      cases h3
      exact ⟨F, α, ρ, S, _, _, h1, h2, e, fun vs F1 α1 H1 st1 hs1 rv => ⟨by rw [rv.length]; exact hz, PostL.lst (fun a vs F' α' H' st hs hn nf hl r => k a vs F' α' H' (st1.trans st) hs (st1.back hn) nf hl r) hs1 rv⟩⟩
    · cases h3
  · cases h3

/-! ### isinstance -/
def tyN : D → String
  | .non => "NoneType" | .bl _ => "bool" | .int _ => "int" | .str _ => "str" | .lst _ => "list" | .frz _ => "list" | .tup _ => "tuple" | .obj _ => "dict"
theorem ty_of (s : StR K F α H S) : ∀ {v : V} {d : D}, Rw K F α H v d → TyX K H v (.type (tyN d))
  | _, _, .lst h _ => .base (.lst h)
  | _, _, .st .non => .base .non
  | _, _, .st (.bl b) => .base (.bl b)
  | _, _, .st (.int b) => .base (.int b)
  | _, _, .st (.str b) => .base (.str b)
  | _, _, .st (.lst _ h _) => .base (.lst h)
  | _, _, .st (.tup h _) => .base (.tup h)
  | _, _, .st (.frz h _) => h.elim (fun ⟨_, e⟩ => .base (.frz e)) fun ⟨_, _, _, e, c, _⟩ => .kList e c
  | _, _, .st (.obj h) => by
    obtain ⟨kvs, e⟩ := s.at (List.mem_of_getElem? h)
    exact .base (.dK e)
/-- the kinds that are asked for: bools are ints -/
inductive Ty where | int | str | bool | tuple | list | dict
def Ty.n : Ty → String
  | .int => "int" | .str => "str" | .bool => "bool" | .tuple => "tuple" | .list => "list" | .dict => "dict"
def isT : Ty → D → Bool
  | .int, .int _ => true | .int, .bl _ => true
  | .str, .str _ => true
  | .bool, .bl _ => true
  | .tuple, .tup _ => true
  | .list, .lst _ => true | .list, .frz _ => true
  | .dict, .obj _ => true
  | _, _ => false
def kitRow (T : String) : List (Option Bool) := ["NoneType", "bool", "int", "str", "list", "tuple", "dict"].map fun a => kitB a T
theorem kit_int : kitRow "int" = [some false, some true, some true, some false, some false, some false, some false] := by decide +kernel
theorem kit_str : kitRow "str" = [some false, some false, some false, some true, some false, some false, some false] := by decide +kernel
theorem kit_bool : kitRow "bool" = [some false, some true, some false, some false, some false, some false, some false] := by decide +kernel
theorem kit_tuple : kitRow "tuple" = [some false, some false, some false, some false, some false, some true, some false] := by decide +kernel
theorem kit_list : kitRow "list" = [some false, some false, some false, some false, some true, some false, some false] := by decide +kernel
theorem kit_dict : kitRow "dict" = [some false, some false, some false, some false, some false, some false, some true] := by decide +kernel
theorem row7 {α : Type} {a b c d e f g a' b' c' d' e' f' g' : α} (h : [a, b, c, d, e, f, g] = [a', b', c', d', e', f', g']) : a = a' ∧ b = b' ∧ c = c' ∧ d = d' ∧ e = e' ∧ f = f' ∧ g = g' := by simpa using h
theorem kit_isT (T : Ty) (d : D) : kitB (tyN d) T.n = some (isT T d) := by
  cases T with
  | int => obtain ⟨h1, h2, h3, h4, h5, h6, h7⟩ := row7 kit_int; cases d <;> assumption
  | str => obtain ⟨h1, h2, h3, h4, h5, h6, h7⟩ := row7 kit_str; cases d <;> assumption
  | bool => obtain ⟨h1, h2, h3, h4, h5, h6, h7⟩ := row7 kit_bool; cases d <;> assumption
  | tuple => obtain ⟨h1, h2, h3, h4, h5, h6, h7⟩ := row7 kit_tuple; cases d <;> assumption
  | list => obtain ⟨h1, h2, h3, h4, h5, h6, h7⟩ := row7 kit_list; cases d <;> assumption
  | dict => obtain ⟨h1, h2, h3, h4, h5, h6, h7⟩ := row7 kit_dict; cases d <;> assumption
def gIsi (T : Ty) : D → Option D := fun d => some (.bl (isT T d))
theorem j_isi {T : Ty} (raw : PE X e (tCB (rIsi X.K) (tCons (tW X.K f) (tCons (tC (.ty T.n)) tNil)))) : PE X e (tV X.K (e1 (gIsi T) f)) := pe_weak raw fun σ H Q ⟨F, α, ρ, S, d, S', h1, h2, h3, k⟩ => by
  obtain ⟨x, a1, a3⟩ := e1_some h3
  cases a3
  exact ⟨F, α, ρ, S, x, _, h1, h2, a1, fun v F1 α1 H1 st1 hs1 rv => ⟨v, .ty T.n, .type (tyN x), .type T.n, isT T x, rfl, .ty T.n, ty_of hs1 rv, kit_ty (kit_isT T x), k _ F1 α1 H1 st1 hs1 (.bl _)⟩⟩
def gIsi2 (T U : Ty) : D → Option D := fun d => some (.bl (isT T d || isT U d))
/-- isinstance(x, (T1, T2)) -/
theorem j_isi2 {T U : Ty} (raw : PE X e (tCB (rIsiT X.K) (tCons (tW X.K f) (tCons (tTup (tCons (tC (.ty T.n)) (tCons (tC (.ty U.n)) tNil))) tNil)))) :
    PE X e (tV X.K (e1 (gIsi2 T U) f)) := pe_weak raw fun σ H Q ⟨F, α, ρ, S, d, S', h1, h2, h3, k⟩ => by
  obtain ⟨x, a1, a3⟩ := e1_some h3
  cases a3
  refine ⟨F, α, ρ, S, x, _, h1, h2, a1, fun v F1 α1 H1 st1 hs1 rv => ⟨(by show 2 ≤ sizeLine; decide), fun p hp => ?_⟩⟩
  have st2 := Step.new (o := .tup [.ty T.n, .ty U.n]) hs1 hp
  refine ⟨v, p, [.ty T.n, .ty U.n], .type (tyN x), [.type T.n, .type U.n], _, rfl, upd_same, .cons (.ty T.n) (.cons (.ty U.n) .nil), ty_of (hs1.new hp) (rv.mono hs1 st2), ?_, k _ F1 α1 _ (st1.trans st2) (hs1.new hp) (.bl _)⟩
  refine kitAny_cons (kit_ty (kit_isT T x)) (fun e => ?_) (fun e => by rw [e]; rfl)
  refine kitAny_cons (kit_ty (kit_isT U x)) (fun e2 => by rw [kitAny_nil, e, e2]; rfl) (fun e2 => by rw [e2, Bool.or_true])
end
end J

set_option maxHeartbeats 4000000
namespace J
open PySem PySem.Spec PyProof.Rows L2

section
variable {K : PySem.W.Frag} {F F' F2 : Addr → Prop} {α α' α2 : List Addr} {H H' H2 : Hp} {S S' : Store} {v : V} {d : D} {ρ : Env} {ds : List D}
variable {X : Cx} {a b c e : Expr} {es : List Expr} {f g h : EX} {r : EL} {pos p : Pos} {x : Str}
/-! ### slices -/
abbrev EO := Env → Store → Option (Option Int × Store)
def oN : EO := fun _ S => some (none, S)
def oS (f : EX) : EO := fun ρ S => match f ρ S with | some (.int i, S1) => some (some i, S1) | _ => none
def tOJ (K : PySem.W.Frag) (f : EO) : TO := fun σ H Q => ∃ F α ρ S o S', StR K F α H S ∧ EnR K F α H σ ρ ∧ f ρ S = some (o, S') ∧
  ∀ F' α' H', Step F α H F' α' H' → StR K F' α' H' S' → Q o H'
theorem po_weak {e : Option Expr} {t t' : TO} (h : PO X e t) (w : ∀ σ H Q, t' σ H Q → t σ H Q) : PO X e t' := ⟨fun pins s σ H Q I q => h.run pins s σ H Q I (w σ H Q q)⟩
theorem j_oN : PO X none (tOJ X.K oN) := po_weak po_none fun σ H Q ⟨F, α, ρ, S, d, S', h1, h2, h3, k⟩ => by
  cases h3
  exact k F α H (Step.refl h1) h1
theorem j_oS (q : PE X a (tV X.K f)) : PO X (some a) (tOJ X.K (oS f)) := po_weak (po_some q) fun σ H Q ⟨F, α, ρ, S, d, S', h1, h2, h3, k⟩ => by
  unfold oS at h3
  split at h3
  · rename_i i S1 e
    cases h3
    exact ⟨F, α, ρ, S, _, _, h1, h2, e, fun v F1 α1 H1 st1 hs1 rv => by cases rv; exact ⟨i, rfl, k F1 α1 H1 st1 hs1⟩⟩
  · cases h3
def cutD (ds : List D) (lo hi : Option Int) : List D := (ds.drop (HT.sIx ds.length 0 lo)).take (HT.sIx ds.length ds.length hi - HT.sIx ds.length 0 lo)
theorem RpA.cut {vs : List V} (r : RpA K F α H vs ds) (lo hi : Option Int) : RpA K F α H (cutV vs lo hi) (cutD ds lo hi) := by
  unfold cutV cutD
  rw [r.length]
  exact (r.drop _).take _
theorem cut_whole {lo hi : Option Int} (h : HT.sIx ds.length 0 lo = 0 ∧ HT.sIx ds.length ds.length hi = ds.length) : cutD ds lo hi = ds := by
  unfold cutD
  rw [h.1, h.2]
  simp
def gSl : D → Option Int → Option Int → Option D
  | .lst xs, l, u => some (.lst (cutD xs l u))
  | .frz xs, l, u => some (.lst (cutD xs l u))
  | .tup xs, l, u => some (.tup (cutD xs l u))
  | .str z, l, u => if z.length ≤ sizeLine then some (.str (cutS z l u)) else none
  | _, _, _ => none
abbrev rSlJ (K : PySem.W.Frag) : V → Option Int → Option Int → Hp → VK → Prop := fun x lo hi H Q => (rSlL K x lo hi H Q ∨ rSlA K x lo hi H Q) ∨ rSlS x lo hi H Q
theorem sl_J : SlR X (rSlJ X.K) := (sl_list.or sl_tupA).or sl_str
def eSl (f : EX) (l u : EO) : EX := fun ρ S => match f ρ S with | some (x, S1) => (match l ρ S1 with | some (i, S2) => (match u ρ S2 with | some (j, S3) => (match gSl x i j with | some z => some (z, S3) | none => none) | none => none) | none => none) | none => none
def lSl (f : EX) (l u : EO) : EL := fun ρ S => match f ρ S with
  | some (.lst x, S1) => (match l ρ S1 with | some (i, S2) => (match u ρ S2 with | some (j, S3) => some (cutD x i j, S3) | none => none) | none => none)
  | some (.frz x, S1) => (match l ρ S1 with | some (i, S2) => (match u ρ S2 with | some (j, S3) => some (cutD x i j, S3) | none => none) | none => none)
  | _ => none
theorem eSl_some {l u : EO} (q : eSl f l u ρ S = some (d, S')) : ∃ x S1 i S2 j, f ρ S = some (x, S1) ∧ l ρ S1 = some (i, S2) ∧ u ρ S2 = some (j, S') ∧ gSl x i j = some d := by
  unfold eSl at q
  split at q
  · split at q
    · split at q
      · split at q
        · cases q; exact ⟨_, _, _, _, _, by assumption, by assumption, by assumption, by assumption⟩
        · cases q
      · cases q
    · cases q
  · cases q
theorem lSl_some {l u : EO} (q : lSl f l u ρ S = some (ds, S')) : ∃ x y S1 i S2 j, f ρ S = some (y, S1) ∧ (y = .lst x ∨ y = .frz x) ∧ l ρ S1 = some (i, S2) ∧ u ρ S2 = some (j, S') ∧ ds = cutD x i j := by
  unfold lSl at q
  split at q
  · split at q
    · split at q
      · cases q; exact ⟨_, _, _, _, _, _, by assumption, .inl rfl, by assumption, by assumption, rfl⟩
      · cases q
    · cases q
  · split at q
    · split at q
      · cases q; exact ⟨_, _, _, _, _, _, by assumption, .inr rfl, by assumption, by assumption, rfl⟩
      · cases q
    · cases q
  · cases q
theorem sp_sl {x : V} {dx : D} {l u : Option Int} {Q : VK} (s : StR K F α H S) (rx : Rw K F α H x dx) (e : gSl dx l u = some d) (q : Post K F α H S d Q) : rSlJ K x l u H Q := by
  unfold gSl at e
  split at e
  · cases e
    obtain ⟨a, vs, rfl, ha, r1⟩ := rx.seqL
    exact .inl (.inl ⟨a, vs, rfl, ha, Post.lst q s (r1.cut _ _)⟩)
  · cases e
    obtain ⟨a, vs, rfl, ha, r1⟩ := rx.seqF
    exact .inl (.inl ⟨a, vs, rfl, ha, Post.lst q s (r1.cut _ _)⟩)
  · cases e
    obtain ⟨a, vs, rfl, ha, r1⟩ := rx.tup'
    refine .inl (.inr ⟨a, vs, rfl, SqT.of ha, fun hw => ?_, fun _ => Post.tup q s (r1.cut _ _)⟩)
    rw [r1.length] at hw
    rw [cut_whole hw] at q
    exact Post.here q s (.tup ha r1)
  · split at e
    · cases e
      cases rx.str
      exact .inr ⟨_, rfl, by assumption, Post.here q s (.str _)⟩
    · cases e
  · cases e
theorem j_sl {lo hi : Option Expr} {l u : EO} {p2 : Pos} (q : PE X a (tW X.K f)) (q1 : PO X lo (tOJ X.K l)) (q2 : PO X hi (tOJ X.K u)) : PE X (.Subscript a (.Slice lo hi none p2) pos) (tV X.K (eSl f l u)) :=
  pe_weak (pe_slice sl_J q q1 q2) fun σ H Q ⟨F, α, ρ, S, d, S', h1, h2, h3, k⟩ => by
    obtain ⟨x, S1, i, S2, j, a1, a2, a3, a4⟩ := eSl_some h3
    exact ⟨F, α, ρ, S, x, S1, h1, h2, a1, fun v F1 α1 H1 st1 hs1 rv => ⟨F1, α1, ρ, S1, i, _, hs1, h2.mono h1 st1, a2, fun F2 α2 H2 st2 hs2 => ⟨F2, α2, ρ, S2, j, _, hs2, (h2.mono h1 st1).mono hs1 st2, a3, fun F3 α3 H3 st3 hs3 =>
      sp_sl hs3 ((rv.mono hs1 st2).mono hs2 st3) a4 fun v F' α' H' st hs r => k v F' α' H' (((st1.trans st2).trans st3).trans st) hs r⟩⟩⟩
theorem j_slL {lo hi : Option Expr} {l u : EO} {p2 : Pos} (q : PE X a (tW X.K f)) (q1 : PO X lo (tOJ X.K l)) (q2 : PO X hi (tOJ X.K u)) : PE X (.Subscript a (.Slice lo hi none p2) pos) (tL X.K (lSl f l u)) :=
  pe_weak (pe_slice sl_J q q1 q2) fun σ H Q ⟨F, α, ρ, S, d, S', h1, h2, h3, k⟩ => by
    obtain ⟨x, y, S1, i, S2, j, a1, ay, a2, a3, rfl⟩ := lSl_some h3
    refine ⟨F, α, ρ, S, y, S1, h1, h2, a1, fun v F1 α1 H1 st1 hs1 rv => ⟨F1, α1, ρ, S1, i, _, hs1, h2.mono h1 st1, a2, fun F2 α2 H2 st2 hs2 => ⟨F2, α2, ρ, S2, j, _, hs2, (h2.mono h1 st1).mono hs1 st2, a3, fun F3 α3 H3 st3 hs3 => ?_⟩⟩⟩
    have st := (st1.trans st2).trans st3
    have r3 := (rv.mono hs1 st2).mono hs2 st3
    have fin : ∀ {b : Addr} {vs : List V}, RpA X.K F3 α3 H3 vs x → ∀ p, H3 p = none → Q (.ref p) (upd H3 p (.lst (cutV vs i j))) := fun {b vs} r1 => PostL.lst (fun a vs F' α' H' st' hs hn nf hl r => k a vs F' α' H' (st.trans st') hs (st.back hn) nf hl r) hs3 (r1.cut _ _)
    rcases ay with rfl | rfl
    · obtain ⟨b, vs, rfl, ha, r1⟩ := r3.seqL
      exact .inl (.inl ⟨b, vs, rfl, ha, fin (b := b) r1⟩)
    · obtain ⟨b, vs, rfl, ha, r1⟩ := r3.seqF
      exact .inl (.inl ⟨b, vs, rfl, ha, fin (b := b) r1⟩)
/-- xs[::-1] -/
def lRev (f : EX) : EL := fun ρ S => match f ρ S with | some (.lst x, S1) => some (x.reverse, S1) | some (.frz x, S1) => some (x.reverse, S1) | _ => none
theorem j_rev {e : Expr} (raw : PE X e (tRevL X.K (tW X.K f))) : PE X e (tL X.K (lRev f)) := pe_weak raw fun σ H Q ⟨F, α, ρ, S, d, S', h1, h2, h3, k⟩ => by
  unfold lRev at h3
  split at h3
  · rename_i x S1 e
    cases h3
    refine ⟨F, α, ρ, S, _, _, h1, h2, e, fun v F1 α1 H1 st1 hs1 rv => ?_⟩
    obtain ⟨b, vs, rfl, ha, r1⟩ := rv.seqL
    exact ⟨b, vs, rfl, ha, PostL.lst (fun a vs F' α' H' st' hs hn nf hl r => k a vs F' α' H' (st1.trans st') hs (st1.back hn) nf hl r) hs1 r1.reverse⟩
  · rename_i x S1 e
    cases h3
    refine ⟨F, α, ρ, S, _, _, h1, h2, e, fun v F1 α1 H1 st1 hs1 rv => ?_⟩
    obtain ⟨b, vs, rfl, ha, r1⟩ := rv.seqF
    exact ⟨b, vs, rfl, ha, PostL.lst (fun a vs F' α' H' st' hs hn nf hl r => k a vs F' α' H' (st1.trans st') hs (st1.back hn) nf hl r) hs1 r1.reverse⟩
  · cases h3

/-! ### sep.join(xs) -/
def gJoin : D → D → Option D
  | .str a, .lst xs => match strs? xs with | some ys => if (ys.map (·.length)).sum + ys.length * a.length ≤ 16777216 then some (.str (Txt.join a ys)) else none | none => none
  | .str a, .tup xs => match strs? xs with | some ys => if (ys.map (·.length)).sum + ys.length * a.length ≤ 16777216 then some (.str (Txt.join a ys)) else none | none => none
  | _, _ => none
abbrev rJoinJ (K : PySem.W.Frag) : V → List V → Hp → VK → Prop := fun x xs H Q => ∃ a p, ∃ ys : List Str, x = .str a ∧ xs = [.ref p] ∧ (SqL K H p (ys.map V.str) ∨ SqT K H p (ys.map V.str)) ∧
      (ys.map (·.length)).sum + ys.length * a.length ≤ 16777216 ∧ Q (.str (Txt.join a ys)) H
theorem j_join {e : Expr} (raw : PE X e (tM1 (rJoinJ X.K) (tW X.K f) (tW X.K h))) : PE X e (tV X.K (e2 gJoin f h)) := pe_weak raw fun σ H Q ⟨F, α, ρ, S, d, S', h1, h2, h3, k⟩ => by
  obtain ⟨x, S1, y, a1, a2, a3⟩ := e2_some h3
  refine ⟨F, α, ρ, S, x, S1, h1, h2, a1, fun v F1 α1 H1 st1 hs1 rv => ?_⟩
  unfold gJoin at a3
  split at a3
  · rename_i z xs
    split at a3
    · rename_i ys ey
      split at a3
      · rename_i hz
        cases a3
        cases rv.str
        refine ⟨⟨z, rfl⟩, F1, α1, ρ, S1, _, _, hs1, h2.mono h1 st1, a2, fun v2 F2 α2 H2 st2 hs2 rv2 => ?_⟩
        obtain ⟨b, vs, rfl, hb, r2⟩ := rv2.seqL
        rw [strs_of r2 ey] at hb
        exact ⟨z, b, ys, rfl, rfl, .inl hb, hz, k _ F2 α2 H2 (st1.trans st2) hs2 (.str _)⟩
      · cases a3
    · cases a3
  · rename_i z xs
    split at a3
    · rename_i ys ey
      split at a3
      · rename_i hz
        cases a3
        cases rv.str
        refine ⟨⟨z, rfl⟩, F1, α1, ρ, S1, _, _, hs1, h2.mono h1 st1, a2, fun v2 F2 α2 H2 st2 hs2 rv2 => ?_⟩
        obtain ⟨b, vs, rfl, hb, r2⟩ := rv2.seqT
        rw [strs_of r2 ey] at hb
        exact ⟨z, b, ys, rfl, rfl, .inr hb, hz, k _ F2 α2 H2 (st1.trans st2) hs2 (.str _)⟩
      · cases a3
    · cases a3
  · cases a3

/-! ### dicts of the store -/
def obGet : Ob → Str → Option D
  | [], _ => none
  | (k, x) :: r, m => if k = m then some x else obGet r m
def obHas : Ob → Str → Bool
  | [], _ => false
  | (k, _) :: r, m => if k = m then true else obHas r m
def obSet : Ob → Str → D → Ob
  | [], _, _ => []
  | (k, x) :: r, m, y => if k = m then (k, y) :: obSet r m y else (k, x) :: obSet r m y
def obPut (o : Ob) (m : Str) (y : D) : Ob := if obHas o m = true then obSet o m y else o ++ [(m, y)]
abbrev ObR (K : PySem.W.Frag) (F : Addr → Prop) (α : List Addr) (H : Hp) : List (Key × V) → Ob → Prop := Paired (fun (p : Key × V) (q : Str × D) => p.1 = Sum.inr q.1 ∧ Rp K F α H p.2 q.2)
theorem inr_iff {a b : Str} : ((Sum.inr a : Key) = Sum.inr b) = (a = b) := propext ⟨fun h => Sum.inr.inj h, fun h => by rw [h]⟩
theorem obR_get : ∀ {kvs : List (Key × V)} {o : Ob} {m : Str} {d : D}, ObR K F α H kvs o → obGet o m = some d → ∃ v, valV kvs (Sum.inr m) = some v ∧ Rp K F α H v d
  | _, _, _, _, .nil, e => by cases e
  | _, _, m, d, .cons (a := p) (b := q) h r, e => by
    obtain ⟨k, x⟩ := q
    unfold obGet at e
    have e1 : p.1 = Sum.inr k := h.1
    split at e
    · rename_i hk
      cases e
      subst hk
      exact ⟨p.2, valV_pos e1, h.2⟩
    · rename_i hk
      obtain ⟨v, h1, h2⟩ := obR_get r e
      exact ⟨v, by rw [valV_neg (by rw [e1, inr_iff]; exact hk)]; exact h1, h2⟩
theorem obR_has : ∀ {kvs : List (Key × V)} {o : Ob} {m : Str}, ObR K F α H kvs o → (kvs.any fun kv => decide (kv.1 = Sum.inr m)) = obHas o m
  | _, _, _, .nil => rfl
  | _, _, m, .cons (a := p) (b := q) h r => by
    obtain ⟨k, x⟩ := q
    have e1 : p.1 = Sum.inr k := h.1
    have ih := obR_has (m := m) r
    rw [List.any_cons, ih, e1]
    show _ = if k = m then true else obHas _ m
    by_cases hk : k = m
    · rw [if_pos hk, decide_eq_true (by rw [hk])]; rfl
    · rw [if_neg hk, decide_eq_false (by rw [inr_iff]; exact hk), Bool.false_or]
theorem obR_set {v : V} {d : D} (rv : Rp K F α H v d) : ∀ {kvs : List (Key × V)} {o : Ob} {m : Str}, ObR K F α H kvs o → ObR K F α H (kvs.map (fun kv => if kv.1 = Sum.inr m then (kv.1, v) else kv)) (obSet o m d)
  | _, _, _, .nil => .nil
  | _, _, m, .cons (a := p) (b := q) h r => by
    obtain ⟨k, x⟩ := q
    have e1 : p.1 = Sum.inr k := h.1
    rw [List.map_cons]
    unfold obSet
    by_cases hk : k = m
    · rw [if_pos hk, if_pos (by rw [e1, hk])]
      exact .cons ⟨e1, rv⟩ (obR_set rv r)
    · rw [if_neg hk, if_neg (by rw [e1, inr_iff]; exact hk)]
      exact .cons h (obR_set rv r)
theorem pairedApp {α β : Type} {P : α → β → Prop} : ∀ {l₁ : List α} {l₂ : List β} {m₁ : List α} {m₂ : List β}, Paired P l₁ l₂ → Paired P m₁ m₂ → Paired P (l₁ ++ m₁) (l₂ ++ m₂)
  | _, _, _, _, .nil, q => q
  | _, _, _, _, .cons h t, q => .cons h (pairedApp t q)
theorem obR_put {v : V} {d : D} {kvs : List (Key × V)} {o : Ob} {m : Str} (rv : Rp K F α H v d) (r : ObR K F α H kvs o) : ObR K F α H (putK kvs (Sum.inr m) v) (obPut o m d) := by
  unfold putK obPut
  rw [obR_has r]
  split
  · exact obR_set rv r
  · exact pairedApp r (.cons ⟨rfl, rv⟩ .nil)
theorem pairedLen {α β : Type} {P : α → β → Prop} : ∀ {l₁ : List α} {l₂ : List β}, Paired P l₁ l₂ → l₁.length = l₂.length
  | _, _, .nil => rfl
  | _, _, .cons _ t => by rw [List.length_cons, List.length_cons, pairedLen t]
/-- d[k], d a dict of the store, k a text -/
def eGet (f h : EX) : EX := fun ρ S => match f ρ S with | some (.obj n, S1) => (match h ρ S1 with | some (.str m, S2) => (match S2[n]? with | some o => (match obGet o m with | some d => some (d, S2) | none => none) | none => none) | _ => none) | _ => none
theorem j_get {e : Expr} (raw : PE X e (tDGet (tW X.K f) (tW X.K h))) : PE X e (tV X.K (eGet f h)) := pe_weak raw fun σ H Q ⟨F, α, ρ, S, d, S', h1, h2, h3, k⟩ => by
  unfold eGet at h3
  split at h3
  · rename_i n S1 ea
    split at h3
    · rename_i m S2 eb
      split at h3
      · rename_i o eo
        split at h3
        · rename_i x ex
          cases h3
          refine ⟨F, α, ρ, S, _, _, h1, h2, ea, fun v F1 α1 H1 st1 hs1 rv => ⟨F1, α1, ρ, S1, _, _, hs1, h2.mono h1 st1, eb, fun v2 F2 α2 H2 st2 hs2 rv2 => ?_⟩⟩
          obtain ⟨a, rfl, ha⟩ := (rv.mono hs1 st2).obj'
          cases rv2.str
          obtain ⟨kvs, o', e1, e2, e3⟩ := hs2.ob n a ha
          rw [eo] at e1; cases e1
          obtain ⟨w, q1, q2⟩ := obR_get e3 ex
          refine ⟨a, w, rfl, ?_, k w F2 α2 H2 (st1.trans st2) hs2 q2⟩
          rw [← q1]
          exact DGet.k (k := Sum.inr m) e2
        · cases h3
      · cases h3
    · cases h3
  · cases h3

/-! ### calls of the text's own functions -/
abbrev FN := List D → Store → Option (D × Store)
/-- the promise: what G says -/
def spF (K : PySem.W.Frag) (G : FN) (n : Nat) : Sp := fun vs H Q _ => vs.length = n ∧ ∃ F α S ds d S', StR K F α H S ∧ RpA K F α H vs ds ∧ G ds S = some (d, S') ∧
  ∀ v F' α' H', Step F α H F' α' H' → StR K F' α' H' S' → Rp K F' α' H' v d → Q v H'
def eCall (G : FN) (r : EL) : EX := fun ρ S => match r ρ S with | some (ds, S1) => G ds S1 | none => none
theorem j_call {e : Expr} {G : FN} {E : XK} (raw : PE X e (tCall (spF X.K G es.length) [] E (tVs X.K r))) (hl : ∀ ρ S ds S', r ρ S = some (ds, S') → ds.length = es.length) : PE X e (tV X.K (eCall G r)) :=
  pe_weak raw fun σ H Q ⟨F, α, ρ, S, d, S', h1, h2, h3, k⟩ => by
    unfold eCall at h3
    split at h3
    · rename_i ds S1 ea
      refine ⟨F, α, ρ, S, ds, S1, h1, h2, ea, fun vs F1 α1 H1 st1 hs1 rv => ⟨by rw [List.append_nil, rv.length]; exact hl _ _ _ _ ea, F1, α1, S1, ds, d, S', hs1, by rw [List.append_nil]; exact rv, h3, fun v F2 α2 H2 st2 hs2 r2 => k v F2 α2 H2 (st1.trans st2) hs2 r2⟩⟩
    · cases h3
end
end J

set_option maxHeartbeats 4000000
namespace J
open PySem PySem.Spec PyProof.Rows L2

/-! ## 5. What is walked; comprehensions -/
/-- what may have come to pass while the frame's own lists changed -/
structure StepW (F : Addr → Prop) (α : List Addr) (H : Hp) (F' : Addr → Prop) (α' : List Addr) (H' : Hp) : Prop where
  fm : ∀ a, F a → F' a
  ap : ∃ m, α' = α ++ m ∧ ∀ a ∈ m, H a = none
  hp : ∀ a o, H a = some o → a ∉ α → ((∃ xs, o = .lst xs) → F a) → H' a = some o
  bk : ∀ a, H' a = none → H a = none
section
variable {K : PySem.W.Frag} {F F' F2 : Addr → Prop} {α α' α2 : List Addr} {H H' H2 : Hp} {S S' : Store} {v : V} {d : D} {ρ ρ' : Env} {ds : List D} {σ σ' : L2.St}
theorem Step.w (t : Step F α H F' α' H') : StepW F α H F' α' H' := ⟨t.fm, t.ap, fun a o h n _ => t.hp a o h n, fun _ h => t.back h⟩
theorem StepW.refl : StepW F α H F α H := ⟨fun _ h => h, ⟨[], by simp, fun _ h => by simp at h⟩, fun _ _ h _ _ => h, fun _ h => h⟩
theorem StepW.trans (s : StepW F α H F' α' H') (t : StepW F' α' H' F2 α2 H2) : StepW F α H F2 α2 H2 where
  bk := fun a h => s.bk a (t.bk a h)
  fm := fun a h => t.fm a (s.fm a h)
  ap := by
    obtain ⟨m, e, hm⟩ := s.ap
    obtain ⟨m2, e2, hm2⟩ := t.ap
    refine ⟨m ++ m2, by rw [e2, e, List.append_assoc], fun a h => ?_⟩
    rcases List.mem_append.mp h with h | h
    · exact hm a h
    · exact s.bk a (hm2 a h)
  hp := fun a o h n q => by
    refine t.hp a o (s.hp a o h n q) (fun m => ?_) fun z => s.fm a (q z)
    obtain ⟨m1, e, hm⟩ := s.ap
    rw [e] at m
    rcases List.mem_append.mp m with m | m
    · exact n m
    · rw [hm a m] at h; cases h
mutual
theorem Rp.monoW (s : StR K F α H S) (t : StepW F α H F' α' H') : ∀ {v : V} {d : D}, Rp K F α H v d → Rp K F' α' H' v d
  | _, _, .non => .non
  | _, _, .bl b => .bl b
  | _, _, .int i => .int i
  | _, _, .str x => .str x
  | _, _, .lst f h r => .lst (t.fm _ f) (t.hp _ _ h (s.out h fun _ e => by cases e) fun _ => f) (RpA.monoW s t r)
  | _, _, .tup h r => .tup (t.hp _ _ h (s.out h fun _ e => by cases e) fun ⟨_, z⟩ => by cases z) (RpA.monoW s t r)
  | _, _, .frz h r => .frz (h.keep fun _ h => t.hp _ _ h (s.out h fun _ e => by cases e) fun ⟨_, z⟩ => by cases z) (RpA.monoW s t r)
  | _, _, .obj h => .obj (by
      obtain ⟨m, e, _⟩ := t.ap
      rw [e, List.getElem?_append_left (List.getElem?_eq_some_iff.mp h).1]; exact h)
theorem RpA.monoW (s : StR K F α H S) (t : StepW F α H F' α' H') : ∀ {vs : List V} {ds : List D}, RpA K F α H vs ds → RpA K F' α' H' vs ds
  | _, _, .nil => .nil
  | _, _, .cons h r => .cons (Rp.monoW s t h) (RpA.monoW s t r)
end
/-- a list that is held by one slot (or is being made) changes -/
theorem StepW.mut {p : Addr} {xs ys : List V} (h : H p = some (.lst xs)) (nf : ¬ F p) : StepW F α H F α (upd H p (.lst ys)) :=
  ⟨fun _ h => h, ⟨[], by simp, fun _ h => by simp at h⟩, fun a o e _ q => by
    by_cases ea : a = p
    · subst ea
      rw [h] at e
      exact absurd (q ⟨xs, (Option.some.inj e).symm⟩) nf
    · rw [upd_ne ea]; exact e, fun a e => by
    by_cases ea : a = p
    · rw [ea, upd_same] at e; cases e
    · rw [upd_ne ea] at e; exact e⟩
theorem StR.mut {p : Addr} {xs ys : List V} (s : StR K F α H S) (h : H p = some (.lst xs)) (nf : ¬ F p) : StR K F α (upd H p (.lst ys)) S :=
  ⟨s.len, s.nd, fun a f e => by
    by_cases ea : a = p
    · subst ea; exact nf f
    · rw [upd_ne ea] at e; exact s.fa a f e, fun n a e => by
    obtain ⟨kvs, o, h1, h2, h3⟩ := s.ob n a e
    have ne : a ≠ p := ne_of h2 h (by intro z; cases z)
    exact ⟨kvs, o, h1, by rw [upd_ne ne]; exact h2, pairedImp h3 fun _ _ q => ⟨q.1, q.2.monoW s (StepW.mut h nf)⟩⟩⟩
theorem Step.mut {p : Addr} {ys : List V} (t : Step F α H F' α' H') (s : StR K F' α' H' S) (n : H p = none) {xs : List V} (h : H' p = some (.lst xs)) : Step F α H F' α' (upd H' p (.lst ys)) :=
  ⟨t.fm, t.fn, t.ap, fun a o e m => by rw [upd_ne (ne_of_none e n)]; exact t.hp a o e m, fun a m => by
    obtain ⟨kvs, e⟩ := t.hd a m
    exact ⟨kvs, by rw [upd_ne (ne_of e h (by intro z; cases z))]; exact e⟩⟩

/-! ### iterators -/
/-- as long as T holds, the items come one by one -/
structure Wk (K : PySem.W.Frag) (T : (Addr → Prop) → List Addr → Hp → Prop) (J : It) (items : List D) : Prop where
  stop : ∀ i F α H S, T F α H → StR K F α H S → items.length ≤ i → J.stop i H
  go : ∀ i F α H S, T F α H → StR K F α H S → i < items.length → J.go i H
  yld : ∀ i F α H S x H', T F α H → StR K F α H S → J.yld i H x H' → i < items.length → ∃ d F', items[i]? = some d ∧ Step F α H F' α H' ∧ StR K F' α H' S ∧ Rp K F' α H' x d
theorem wk_list {T : (Addr → Prop) → List Addr → Hp → Prop} {a : Addr} {vs : List V} {items : List D} (h : ∀ F α H S, T F α H → StR K F α H S → SqL K H a vs ∧ RpA K F α H vs items) : Wk K T (Itl K a) items where
  stop := fun i F α H S t s hi => by
    obtain ⟨h1, h2⟩ := h F α H S t s
    exact ⟨vs, h1, by rw [h2.length]; exact hi⟩
  go := fun i F α H S t s hi => by
    obtain ⟨h1, h2⟩ := h F α H S t s
    rw [← h2.length] at hi
    exact ⟨vs, vs[i], h1, List.getElem?_eq_getElem hi⟩
  yld := fun i F α H S x H' t s y hi => by
    obtain ⟨h1, h2⟩ := h F α H S t s
    obtain ⟨e, q⟩ := y
    subst e
    obtain ⟨d, e1, r⟩ := h2.get (q vs h1)
    exact ⟨d, F, e1, Step.refl s, s, r⟩
theorem wk_tup {T : (Addr → Prop) → List Addr → Hp → Prop} {a : Addr} {vs : List V} {items : List D} (h : ∀ F α H S, T F α H → StR K F α H S → SqT K H a vs ∧ RpA K F α H vs items) : Wk K T (Itt K a) items where
  stop := fun i F α H S t s hi => by
    obtain ⟨h1, h2⟩ := h F α H S t s
    exact ⟨vs, h1, by rw [h2.length]; exact hi⟩
  go := fun i F α H S t s hi => by
    obtain ⟨h1, h2⟩ := h F α H S t s
    rw [← h2.length] at hi
    exact ⟨vs, vs[i], h1, List.getElem?_eq_getElem hi⟩
  yld := fun i F α H S x H' t s y hi => by
    obtain ⟨h1, h2⟩ := h F α H S t s
    obtain ⟨e, q⟩ := y
    subst e
    obtain ⟨d, e1, r⟩ := h2.get (q vs h1)
    exact ⟨d, F, e1, Step.refl s, s, r⟩
def signs (z : Str) : List D := z.cps.toList.map fun c => .str ⟨#[c]⟩
theorem signs_len (z : Str) : (signs z).length = z.cps.size := by unfold signs; rw [List.length_map, Array.length_toList]
theorem wk_str {T : (Addr → Prop) → List Addr → Hp → Prop} {z : Str} : Wk K T (Its z) (signs z) where
  stop := fun i F α H S t s hi => by rw [signs_len] at hi; exact hi
  go := fun i F α H S t s hi => by rw [signs_len] at hi; exact hi
  yld := fun i F α H S x H' t s y hi => by
    obtain ⟨e, c, hc, ex⟩ := y
    subst e ex
    refine ⟨.str ⟨#[c]⟩, F, ?_, Step.refl s, s, .str _⟩
    unfold signs
    rw [List.getElem?_map, Array.getElem?_toList, hc]; rfl
def ranged (lo : Int) (n : Nat) : List D := (List.range n).map fun i => .int (lo + (i : Nat))
theorem ranged_len (lo : Int) (n : Nat) : (ranged lo n).length = n := by unfold ranged; rw [List.length_map, List.length_range]
theorem wk_range {T : (Addr → Prop) → List Addr → Hp → Prop} {lo : Int} {n : Nat} : Wk K T (Itr lo n) (ranged lo n) where
  stop := fun i F α H S t s hi => by rw [ranged_len] at hi; exact hi
  go := fun i F α H S t s hi => by rw [ranged_len] at hi; exact hi
  yld := fun i F α H S x H' t s y hi => by
    obtain ⟨e, ex⟩ := y
    subst e ex
    rw [ranged_len] at hi
    refine ⟨.int (lo + (i : Nat)), F, ?_, Step.refl s, s, .int _⟩
    unfold ranged
    rw [List.getElem?_map, List.getElem?_range hi]; rfl
def counted (items : List D) : List D := (List.range items.length).zipWith (fun i x => .tup [.int ((i : Nat) : Int), x]) items
theorem counted_len (items : List D) : (counted items).length = items.length := by unfold counted; rw [List.length_zipWith, List.length_range, Nat.min_self]
theorem counted_get {items : List D} {i : Nat} {d : D} (h : items[i]? = some d) : (counted items)[i]? = some (.tup [.int (i : Nat), d]) := by
  have hi : i < items.length := (List.getElem?_eq_some_iff.mp h).1
  unfold counted
  rw [List.getElem?_zipWith, List.getElem?_range hi, h]
theorem wk_enum {T : (Addr → Prop) → List Addr → Hp → Prop} {a : Addr} {vs : List V} {items : List D} (h : ∀ F α H S, T F α H → StR K F α H S → SqL K H a vs ∧ RpA K F α H vs items) : Wk K T (Ite K a) (counted items) where
  stop := fun i F α H S t s hi => by
    obtain ⟨h1, h2⟩ := h F α H S t s
    exact ⟨vs, h1, by rw [h2.length, ← counted_len]; exact hi⟩
  go := fun i F α H S t s hi => by
    obtain ⟨h1, h2⟩ := h F α H S t s
    rw [counted_len, ← h2.length] at hi
    exact ⟨vs, vs[i], h1, List.getElem?_eq_getElem hi⟩
  yld := fun i F α H S x H' t s y hi => by
    obtain ⟨h1, h2⟩ := h F α H S t s
    obtain ⟨p, w, rfl, hp, e, q⟩ := y
    subst e
    obtain ⟨d, e1, r⟩ := h2.get (q vs h1)
    exact ⟨_, F, counted_get e1, Step.new s hp, s.new hp, .tup upd_same (.cons (.int _) (.cons (r.mono s (Step.new s hp)) .nil))⟩

/-! ### what a for, a comprehension goes over -/
/-- strongly: as long as nobody writes what stays | weakly: as long as no list changes -/
def iJ (K : PySem.W.Frag) (f : EL) : TI := fun σ H R => ∃ F α ρ S ds S', StR K F α H S ∧ EnR K F α H σ ρ ∧ f ρ S = some (ds, S') ∧
  ∀ J F' α' H', Step F α H F' α' H' → StR K F' α' H' S' → Wk K (StepW F' α' H') J ds → R J H'
def iW (K : PySem.W.Frag) (f : EL) : TI := fun σ H R => ∃ F α ρ S ds S', StR K F α H S ∧ EnR K F α H σ ρ ∧ f ρ S = some (ds, S') ∧
  ∀ J F' α' H', Step F α H F' α' H' → StR K F' α' H' S' → Wk K (Step F' α' H') J ds → R J H'
theorem pi_weak {X : Cx} {tg e : Expr} {t t' : TI} (h : PI X tg e t) (w : ∀ σ H R, t' σ H R → t σ H R) : PI X tg e t' := ⟨fun pins s σ H R I q => h.run pins s σ H R I (w σ H R q)⟩
theorem pi_or {X : Cx} {tg e : Expr} {t t' : TI} (h : PI X tg e t) (h' : PI X tg e t') : PI X tg e (fun σ H R => t σ H R ∨ t' σ H R) := ⟨fun pins s σ H R I q => q.elim (h.run pins s σ H R I) (h'.run pins s σ H R I)⟩
variable {X : Cx} {a b c e tg : Expr} {es : List Expr} {f g h : EX} {r : EL} {pos p : Pos} {x : Str}
/-- the items of a list, a tuple, a text -/
def items? : D → Option (List D)
  | .lst xs => some xs
  | .frz xs => some xs
  | .tup xs => some xs
  | .str z => some (signs z)
  | _ => none
def iOf (f : EX) : EL := fun ρ S => match f ρ S with | some (x, S1) => (match items? x with | some xs => some (xs, S1) | none => none) | none => none
theorem iOf_some (q : iOf f ρ S = some (ds, S')) : ∃ x, f ρ S = some (x, S') ∧ items? x = some ds := by
  unfold iOf at q
  split at q
  · split at q
    · cases q; exact ⟨_, by assumption, by assumption⟩
    · cases q
  · cases q
theorem j_it (q : PE X a (tV X.K f)) : PI X tg a (iJ X.K (iOf f)) := pi_weak (pi_or (pi_or (pi_list q) (pi_tup q)) (pi_str q)) fun σ H R ⟨F, α, ρ, S, d, S', h1, h2, h3, k⟩ => by
  obtain ⟨y, a1, a2⟩ := iOf_some h3
  unfold items? at a2
  split at a2
  · rename_i xs
    cases a2
    refine .inl (.inl ⟨F, α, ρ, S, _, _, h1, h2, a1, fun v F1 α1 H1 st1 hs1 rv => ?_⟩)
    cases rv with
    | @lst b vs _ fb hb r => exact ⟨b, rfl, ⟨vs, SqL.of hb⟩, k _ F1 α1 H1 st1 hs1 (wk_list fun F2 α2 H2 S2 t s => ⟨SqL.of (t.hp b _ hb (hs1.out hb fun _ z => by cases z) fun _ => fb), r.monoW hs1 t⟩)⟩
  · rename_i xs
    cases a2
    refine .inl (.inl ⟨F, α, ρ, S, _, _, h1, h2, a1, fun v F1 α1 H1 st1 hs1 rv => ?_⟩)
    cases rv with
    | @frz b vs _ hb r => exact ⟨b, rfl, ⟨vs, hb.seq⟩, k _ F1 α1 H1 st1 hs1 (wk_list fun F2 α2 H2 S2 t s => ⟨(hb.keep fun _ hb => t.hp b _ hb (hs1.out hb fun _ z => by cases z) fun ⟨_, z⟩ => by cases z).seq, r.monoW hs1 t⟩)⟩
  · rename_i xs
    cases a2
    refine .inl (.inr ⟨F, α, ρ, S, _, _, h1, h2, a1, fun v F1 α1 H1 st1 hs1 rv => ?_⟩)
    cases rv with
    | @tup b vs _ hb r => exact ⟨b, rfl, ⟨vs, SqT.of hb⟩, k _ F1 α1 H1 st1 hs1 (wk_tup fun F2 α2 H2 S2 t s => ⟨SqT.of (t.hp b _ hb (hs1.out hb fun _ z => by cases z) fun ⟨_, z⟩ => by cases z), r.monoW hs1 t⟩)⟩
  · rename_i z
    cases a2
    refine .inr ⟨F, α, ρ, S, _, _, h1, h2, a1, fun v F1 α1 H1 st1 hs1 rv => ?_⟩
    cases rv with
    | str _ => exact ⟨z, rfl, k _ F1 α1 H1 st1 hs1 wk_str⟩
  · cases a2
theorem j_itW (q : PE X a (tW X.K f)) : PI X tg a (iW X.K (iOf f)) := pi_weak (pi_or (pi_or (pi_list q) (pi_tup q)) (pi_str q)) fun σ H R ⟨F, α, ρ, S, d, S', h1, h2, h3, k⟩ => by
  obtain ⟨y, a1, a2⟩ := iOf_some h3
  unfold items? at a2
  split at a2
  · rename_i xs
    cases a2
    refine .inl (.inl ⟨F, α, ρ, S, _, _, h1, h2, a1, fun v F1 α1 H1 st1 hs1 rv => ?_⟩)
    obtain ⟨b, vs, rfl, hb, r⟩ := rv.lst'
    exact ⟨b, rfl, ⟨vs, SqL.of hb⟩, k _ F1 α1 H1 st1 hs1 (wk_list fun F2 α2 H2 S2 t s => ⟨SqL.of (t.hp b _ hb (hs1.out hb fun _ z => by cases z)), r.mono hs1 t⟩)⟩
  · rename_i xs
    cases a2
    refine .inl (.inl ⟨F, α, ρ, S, _, _, h1, h2, a1, fun v F1 α1 H1 st1 hs1 rv => ?_⟩)
    obtain ⟨b, vs, rfl, hb, r⟩ := rv.frz'
    exact ⟨b, rfl, ⟨vs, hb.seq⟩, k _ F1 α1 H1 st1 hs1 (wk_list fun F2 α2 H2 S2 t s => ⟨(hb.keep fun _ hb => t.hp b _ hb (hs1.out hb fun _ z => by cases z)).seq, r.mono hs1 t⟩)⟩
  · rename_i xs
    cases a2
    refine .inl (.inr ⟨F, α, ρ, S, _, _, h1, h2, a1, fun v F1 α1 H1 st1 hs1 rv => ?_⟩)
    obtain ⟨b, vs, rfl, hb, r⟩ := rv.tup'
    exact ⟨b, rfl, ⟨vs, SqT.of hb⟩, k _ F1 α1 H1 st1 hs1 (wk_tup fun F2 α2 H2 S2 t s => ⟨SqT.of (t.hp b _ hb (hs1.out hb fun _ z => by cases z)), r.mono hs1 t⟩)⟩
  · rename_i z
    cases a2
    refine .inr ⟨F, α, ρ, S, _, _, h1, h2, a1, fun v F1 α1 H1 st1 hs1 rv => ?_⟩
    cases rv.str
    exact ⟨z, rfl, k _ F1 α1 H1 st1 hs1 wk_str⟩
  · cases a2
theorem wk_step {J : It} {items : List D} (w : Wk K (StepW F α H) J items) : Wk K (Step F α H) J items :=
  ⟨fun i F α H S t => w.stop i F α H S t.w, fun i F α H S t => w.go i F α H S t.w, fun i F α H S x H' t => w.yld i F α H S x H' t.w⟩
/-- strongly is weakly -/
theorem j_iw {l : EL} (q : PI X tg a (iJ X.K l)) : PI X tg a (iW X.K l) := pi_weak q fun σ H R ⟨F, α, ρ, S, d, S', h1, h2, h3, k⟩ => ⟨F, α, ρ, S, d, S', h1, h2, h3, fun J F1 α1 H1 st1 hs1 w => k J F1 α1 H1 st1 hs1 (wk_step w)⟩
/-- range -/
def iRg1 (r : EL) : EL := fun ρ S => match r ρ S with | some ([.int j], S1) => if -(2 ^ 62) ≤ j ∧ j < 2 ^ 62 then some (ranged 0 j.toNat, S1) else none | _ => none
def iRg2 (r : EL) : EL := fun ρ S => match r ρ S with | some ([.int i, .int j], S1) => if (-(2 ^ 62) ≤ i ∧ i < 2 ^ 62) ∧ -(2 ^ 62) ≤ j ∧ j < 2 ^ 62 then some (ranged i (j - i).toNat, S1) else none | _ => none
theorem j_rg1 (raw : PI X tg e (iRng1 (tWs X.K r))) : PI X tg e (iJ X.K (iRg1 r)) := pi_weak raw fun σ H R ⟨F, α, ρ, S, d, S', h1, h2, h3, k⟩ => by
  unfold iRg1 at h3
  split at h3
  · split at h3
    · rename_i j S1 e hj
      cases h3
      refine ⟨F, α, ρ, S, _, _, h1, h2, e, fun vs F1 α1 H1 st1 hs1 rv => ?_⟩
      obtain ⟨v, rfl, r⟩ := rv.one
      cases r.int
      exact ⟨j, rfl, hj.1, hj.2, k _ F1 α1 H1 st1 hs1 wk_range⟩
    · cases h3
  · cases h3
theorem j_rg2 (raw : PI X tg e (iRng2 (tWs X.K r))) : PI X tg e (iJ X.K (iRg2 r)) := pi_weak raw fun σ H R ⟨F, α, ρ, S, d, S', h1, h2, h3, k⟩ => by
  unfold iRg2 at h3
  split at h3
  · split at h3
    · rename_i i j S1 e hj
      cases h3
      refine ⟨F, α, ρ, S, _, _, h1, h2, e, fun vs F1 α1 H1 st1 hs1 rv => ?_⟩
      cases rv with
      | cons r1 rv =>
        obtain ⟨v, rfl, r2⟩ := rv.one
        cases r1.int
        cases r2.int
        exact ⟨i, j, rfl, ⟨hj.1.1, hj.1.2, hj.2.1, hj.2.2⟩, k _ F1 α1 H1 st1 hs1 wk_range⟩
    · cases h3
  · cases h3
/-- enumerate of a list -/
def iEn (r : EL) : EL := fun ρ S => match r ρ S with | some ([.lst xs], S1) => some (counted xs, S1) | _ => none
theorem j_en (raw : PI X tg e (iEnum X.K (tVs X.K r))) : PI X tg e (iJ X.K (iEn r)) := pi_weak raw fun σ H R ⟨F, α, ρ, S, d, S', h1, h2, h3, k⟩ => by
  unfold iEn at h3
  split at h3
  · rename_i xs S1 e
    cases h3
    refine ⟨F, α, ρ, S, _, _, h1, h2, e, fun vs F1 α1 H1 st1 hs1 rv => ?_⟩
    cases rv with
    | cons r1 rv =>
      cases rv
      cases r1 with
      | @lst b ws _ fb hb r => exact ⟨b, ws, rfl, SqL.of hb, k _ F1 α1 H1 st1 hs1 (wk_enum fun F2 α2 H2 S2 t s => ⟨SqL.of (t.hp b _ hb (hs1.out hb fun _ z => by cases z) fun _ => fb), r.monoW hs1 t⟩)⟩
  · cases h3

/-! ### targets -/
abbrev BD := D → Env → Option Env
/-- slots of one's own are those that were -/
def OwnSub (σ : L2.St) (ρ : Env) (σ' : L2.St) (ρ' : Env) : Prop := ∀ (j : Nat) (xs : List D), ρ'[j]? = some (.own xs) → ρ[j]? = some (.own xs) ∧ σ'[j]? = σ[j]?
def SpG (K : PySem.W.Frag) (g : TG) (b : BD) (vs : List Nat) : Prop := ∀ F α H S σ ρ v d ρ' (Q : L2.St → Hp → Prop), StR K F α H S → EnR K F α H σ ρ → Rp K F α H v d → b d ρ = some ρ' →
  (∀ σ', EnR K F α H σ' ρ' → wipe σ' vs = wipe σ vs → OwnSub σ ρ σ' ρ' → Q σ' H) → g v σ H Q
def SpGs (K : PySem.W.Frag) (g : TGs) (b : List D → Env → Option Env) (vs : List Nat) : Prop := ∀ F α H S σ ρ ws ds ρ' (Q : L2.St → Hp → Prop), StR K F α H S → EnR K F α H σ ρ → RpA K F α H ws ds → b ds ρ = some ρ' →
  (∀ σ', EnR K F α H σ' ρ' → wipe σ' vs = wipe σ vs → OwnSub σ ρ σ' ρ' → Q σ' H) → g ws σ H Q
theorem wipe_set {i : Nat} {x : Option V} : ∀ {vs : List Nat} {σ : L2.St}, i ∈ vs → wipe (σ.set i x) vs = wipe σ vs
  | [], _, h => by simp at h
  | v :: vs, σ, h => by
    have com : ∀ (us : List Nat) (τ : L2.St), i ∉ us → wipe (τ.set i x) us = (wipe τ us).set i x := by
      intro us
      induction us with
      | nil => intro τ _; rfl
      | cons u us ih =>
        intro τ hn
        show (wipe (τ.set i x) us).set u none = ((wipe τ us).set u none).set i x
        rw [ih τ fun m => hn (List.mem_cons_of_mem _ m)]
        exact List.set_comm _ _ fun e => hn (by rw [e]; exact List.mem_cons_self)
    show (wipe (σ.set i x) vs).set v none = (wipe σ vs).set v none
    by_cases hm : i ∈ vs
    · rw [wipe_set hm]
    · have e : i = v := by
        rcases List.mem_cons.mp h with h | h
        · exact h
        · exact absurd h hm
      rw [com vs σ hm, ← e, List.set_set]
theorem OwnSub.set {i : Nat} {x : Option V} {d : D} : OwnSub σ ρ (σ.set i x) (ρ.set i (.d d)) := fun j xs h => by
  by_cases hj : i = j
  · subst hj
    have hi : i < ρ.length := by
      have := (List.getElem?_eq_some_iff.mp h).1
      rwa [List.length_set] at this
    rw [List.getElem?_set_self hi] at h
    cases h
  · rw [List.getElem?_set_ne hj] at h ⊢
    exact ⟨h, rfl⟩
theorem OwnSub.trans {σ2 : L2.St} {ρ2 : Env} (a : OwnSub σ ρ σ' ρ') (b : OwnSub σ' ρ' σ2 ρ2) : OwnSub σ ρ σ2 ρ2 := fun j xs h => by
  obtain ⟨h1, e1⟩ := b j xs h
  obtain ⟨h2, e2⟩ := a j xs h1
  exact ⟨h2, e1.trans e2⟩
def bName (i : Nat) : BD := fun d ρ => some (ρ.set i (.d d))
theorem sg_name {i : Nat} {vs : List Nat} (h : i ∈ vs) : SpG K (gName i) (bName i) vs := by
  intro F α H S σ ρ v d ρ' Q s e r q k
  cases q
  exact k _ (e.set i r) (wipe_set h) OwnSub.set
def bNil : List D → Env → Option Env := fun ds ρ => match ds with | [] => some ρ | _ => none
def bCons (b : BD) (bs : List D → Env → Option Env) : List D → Env → Option Env := fun ds ρ => match ds with | d :: r => (match b d ρ with | some ρ1 => bs r ρ1 | none => none) | [] => none
def bTup (n : Nat) (bs : List D → Env → Option Env) : BD := fun d ρ => match d with | .tup xs => if xs.length = n then bs xs ρ else none | _ => none
theorem sg_nil {vs : List Nat} : SpGs K gNil bNil vs := by
  intro F α H S σ ρ ws ds ρ' Q s e r q k
  cases r with
  | nil => cases q; exact ⟨rfl, k _ e rfl fun j xs h => ⟨h, rfl⟩⟩
  | cons _ _ => cases q
theorem sg_cons {vs : List Nat} {g : TG} {gs : TGs} {b : BD} {bs : List D → Env → Option Env} (h1 : SpG K g b vs) (h2 : SpGs K gs bs vs) : SpGs K (gCons g gs) (bCons b bs) vs := by
  intro F α H S σ ρ ws ds ρ' Q s e r q k
  cases r with
  | nil => cases q
  | cons r rr =>
    unfold bCons at q
    simp only at q
    split at q
    · rename_i ρ1 e1
      refine ⟨_, _, rfl, h1 F α H S σ ρ _ _ ρ1 _ s e r e1 fun σ1 en1 w1 o1 => ?_⟩
      exact h2 F α H S σ1 ρ1 _ _ ρ' _ s en1 rr q fun σ2 en2 w2 o2 => k σ2 en2 (w2.trans w1) (o1.trans o2)
    · cases q
theorem sg_tup {vs : List Nat} {n : Nat} {gs : TGs} {bs : List D → Env → Option Env} (h : SpGs K gs bs vs) : SpG K (gTup K n gs) (bTup n bs) vs := by
  intro F α H S σ ρ v d ρ' Q s e r q k
  unfold bTup at q
  split at q
  · split at q
    · rename_i hn
      cases r with
      | @tup b ws _ hb r => exact ⟨b, ws, rfl, SqT.of hb, by rw [r.length]; exact hn, h F α H S σ ρ ws _ ρ' Q s e r q k⟩
    · cases q
  · cases q
end
end J

set_option maxHeartbeats 4000000
namespace J
open PySem PySem.Spec PyProof.Rows L2

section
variable {K : PySem.W.Frag} {F F' F2 : Addr → Prop} {α α' α2 : List Addr} {H H' H2 : Hp} {S S' : Store} {v : V} {d : D} {ρ ρ' : Env} {ds : List D} {σ σ' : L2.St}
variable {X : Cx} {a b c e tg : Expr} {es : List Expr} {f g h : EX} {r l : EL} {pos p : Pos} {x : Str}
/-! ### comprehensions -/
def wipeE (ρ : Env) : List Nat → Env
  | [] => ρ
  | v :: vs => (wipeE ρ vs).set v .un
theorem EnR.un (e : EnR K F α H σ ρ) (i : Nat) : EnR K F α H (σ.set i none) (ρ.set i .un) := by
  refine ⟨by rw [List.length_set, List.length_set]; exact e.len, fun j s h => ?_, fun j k xs ys a h1 h2 h3 h4 => ?_⟩
  · by_cases hj : i = j
    · subst hj
      have hi : i < ρ.length := by
        have := (List.getElem?_eq_some_iff.mp h).1
        rwa [List.length_set] at this
      rw [List.getElem?_set_self hi] at h
      cases h
      exact True.intro
    · rw [List.getElem?_set_ne hj] at h
      rw [List.getElem?_set_ne hj]
      exact e.sl j s h
  · have nj : ∀ {j : Nat} {xs : List D}, (ρ.set i .un)[j]? = some (.own xs) → i ≠ j := fun {j xs} h z => by
      subst z
      have hi : i < ρ.length := by
        have := (List.getElem?_eq_some_iff.mp h).1
        rwa [List.length_set] at this
      rw [List.getElem?_set_self hi] at h
      cases h
    have n1 := nj h1
    have n2 := nj h2
    rw [List.getElem?_set_ne n1] at h1 h3
    rw [List.getElem?_set_ne n2] at h2 h4
    exact e.di j k xs ys a h1 h2 h3 h4
theorem EnR.wipe (e : EnR K F α H σ ρ) : ∀ vs : List Nat, EnR K F α H (L2.wipe σ vs) (wipeE ρ vs)
  | [] => e
  | v :: vs => (EnR.wipe e vs).un v
theorem wipe_sub {vs : List Nat} : ∀ {us : List Nat}, (∀ u ∈ us, u ∈ vs) → L2.wipe (L2.wipe σ us) vs = L2.wipe σ vs
  | [], _ => rfl
  | u :: us, h => by
    show L2.wipe ((L2.wipe σ us).set u none) vs = _
    rw [wipe_set (h u List.mem_cons_self), wipe_sub fun w m => h w (List.mem_cons_of_mem _ m)]
def cYes : ET := fun _ S => some (true, S)
theorem j_yes : PTs X [] (tT X.K cYes) := ⟨fun pins s σ H Q I ⟨F, α, ρ, S, d, S', h1, h2, h3, k⟩ => by
  cases h3
  exact pts_nil.run pins s σ H Q I (k F α H (Step.refl h1) h1)⟩
/-- the items that are kept, each with what is made of it -/
def lcGo (bd : BD) (cond : ET) (elt : EX) (ρ : Env) : List D → Store → Option (List D × Store)
  | [], S => some ([], S)
  | x :: xs, S => match bd x ρ with
    | none => none
    | some ρ1 => match cond ρ1 S with
      | none => none
      | some (false, S1) => lcGo bd cond elt ρ xs S1
      | some (true, S1) => match elt ρ1 S1 with
        | none => none
        | some (y, S2) => match lcGo bd cond elt ρ xs S2 with
          | none => none
          | some (ys, S3) => some (y :: ys, S3)
def lComp (vs : List Nat) (l : EL) (bd : BD) (cond : ET) (elt : EX) : EL := fun ρ S => match l ρ S with
  | none => none
  | some (xs, S1) => match lcGo bd cond elt (wipeE ρ vs) xs S1 with
    | none => none
    | some (ys, S2) => if ys.length ≤ sizeLine then some (ys, S2) else none
theorem lComp_some {vs : List Nat} {bd : BD} {cond : ET} {elt : EX} (q : lComp vs l bd cond elt ρ S = some (ds, S')) : ∃ xs S1, l ρ S = some (xs, S1) ∧ lcGo bd cond elt (wipeE ρ vs) xs S1 = some (ds, S') ∧ ds.length ≤ sizeLine := by
  unfold lComp at q
  split at q
  · cases q
  · split at q
    · cases q
    · split at q
      · cases q; exact ⟨_, _, by assumption, by assumption, by assumption⟩
      · cases q
theorem dropCons {α : Type} {xs : List α} {i : Nat} {x : α} (h : xs[i]? = some x) : xs.drop i = x :: xs.drop (i + 1) := by
  obtain ⟨hi, e⟩ := List.getElem?_eq_some_iff.mp h
  rw [← e]
  exact List.drop_eq_getElem_cons hi
theorem StR.outL {p : Addr} {xs : List V} (s : StR K F α H S) (h : H p = some (.lst xs)) : p ∉ α := s.out h fun _ e => by cases e
/-- W of the comprehension's turns -/
def LcW (K : PySem.W.Frag) (F1 : Addr → Prop) (α1 : List Addr) (H1 : Hp) (bd : BD) (cond : ET) (elt : EX) (ρw : Env) (xs : List D) (ds : List D) (S' : Store) (Dd : Addr) : Nat → Nat → Hp → Prop := fun i m H =>
  m = xs.length - i ∧ i ≤ xs.length ∧ ∃ F α S acc ys yr, Step F1 α1 H1 F α H ∧ StR K F α H S ∧ ¬ F Dd ∧ H Dd = some (.lst acc) ∧ RpA K F α H acc ys ∧ lcGo bd cond elt ρw (xs.drop i) S = some (yr, S') ∧ ds = ys ++ yr
theorem comp_imp {own : List Nat} {gt : TG} {bd : BD} {cond : ET} {elt : EX} (sg : SpG K gt bd own) {σ : L2.St} {H : Hp} {Q : VK} : tL K (lComp own l bd cond elt) σ H Q → tLc (iW K l) gt (tT K cond) (tV K elt) own σ H Q :=
  fun ⟨F, α, ρ, S, ds, S', h1, h2, h3, k⟩ => by
    obtain ⟨xs, S1, a1, a2, a3⟩ := lComp_some h3
    refine ⟨F, α, ρ, S, xs, S1, h1, h2, a1, fun J F1 α1 H1 st1 hs1 wk Dd hD => ?_⟩
    refine ⟨LcW K F1 α1 H1 bd cond elt (wipeE ρ own) xs ds S' Dd, ⟨xs.length, by simp, Nat.zero_le _, F1, α1, S1, [], [], ds, Step.new hs1 hD, hs1.new hD, fun f => hs1.fa _ f hD, upd_same, .nil, by rw [List.drop_zero]; exact a2, rfl⟩, ?_⟩
    rintro i m H2 ⟨rfl, hi, F2, α2, S2, acc, ys, yr, st2, hs2, nf, hacc, racc, hgo, hds⟩
    by_cases hlt : i < xs.length
    · have hx : xs[i]? = some xs[i] := List.getElem?_eq_getElem hlt
      rw [dropCons hx] at hgo
      refine .inr ⟨wk.go i F2 α2 H2 S2 st2 hs2 hlt, fun H' => ∃ m', m' < xs.length - i ∧ LcW K F1 α1 H1 bd cond elt (wipeE ρ own) xs ds S' Dd (i + 1) m' H', fun H' q => q, fun y H3 hy => ?_⟩
      obtain ⟨dx, F3, hdx, st3, hs3, rdx⟩ := wk.yld i F2 α2 H2 S2 y H3 st2 hs2 hy hlt
      rw [hx] at hdx
      cases hdx
      unfold lcGo at hgo
      split at hgo
      · cases hgo
      · rename_i ρ1 eb
        have en3 : EnR K F3 α2 H3 (L2.wipe σ own) (wipeE ρ own) := ((h2.mono h1 st1).mono hs1 (st2.trans st3)).wipe own
        refine sg F3 α2 H3 S2 _ _ y xs[i] ρ1 _ hs3 en3 rdx eb fun σ4 en4 w4 _ => ⟨?_, ?_⟩
        · rw [w4, wipe_sub fun _ m => m]
        split at hgo
        · cases hgo
        · rename_i S4 ec
          refine ⟨F3, α2, ρ1, S2, _, _, hs3, en4, ec, fun F5 α5 H5 st5 hs5 => iteF ?_⟩
          have st : Step F2 α2 H2 F5 α5 H5 := st3.trans st5
          refine ⟨xs.length - (i + 1), by omega, rfl, hlt, F5, α5, S4, acc, ys, yr, st2.trans st, hs5, fun f => (st.fn Dd f).elim nf fun z => by (rw [hacc] at z; cases z), st.hp Dd _ hacc (hs2.outL hacc), racc.mono hs2 st, hgo, hds⟩
        · rename_i S4 ec
          split at hgo
          · cases hgo
          · rename_i z S5 ee
            split at hgo
            · cases hgo
            · rename_i zs S6 er
              cases hgo
              refine ⟨F3, α2, ρ1, S2, _, _, hs3, en4, ec, fun F5 α5 H5 st5 hs5 => iteT ?_⟩
              refine ⟨F5, α5, ρ1, S4, _, _, hs5, en4.mono hs3 st5, ee, fun w F6 α6 H6 st6 hs6 rw6 => ?_⟩
              have st : Step F2 α2 H2 F6 α6 H6 := (st3.trans st5).trans st6
              have hacc6 : H6 Dd = some (.lst acc) := st.hp Dd _ hacc (hs2.outL hacc)
              have nf6 : ¬ F6 Dd := fun f => (st.fn Dd f).elim nf fun z => by (rw [hacc] at z; cases z)
              have hlen : acc.length < sizeLine := by
                rw [racc.length]
                rw [hds, List.length_append, List.length_cons] at a3
                omega
              refine ⟨acc, hacc6, hlen, xs.length - (i + 1), by omega, rfl, hlt, F6, α6, S5, acc ++ [w], ys ++ [z], zs, (st2.trans st).mut hs6 hD hacc6, hs6.mut hacc6 nf6, nf6, upd_same, ?_, er, by rw [hds, List.append_assoc]; rfl⟩
              exact ((racc.mono hs2 st).append (.cons rw6 .nil)).monoW hs6 (StepW.mut hacc6 nf6)
    · have ei : i = xs.length := by omega
      subst ei
      rw [List.drop_length] at hgo
      cases hgo
      rw [List.append_nil] at hds
      subst hds
      exact .inl ⟨wk.stop _ F2 α2 H2 _ st2 hs2 (Nat.le_refl _), k Dd acc F2 α2 H2 (st1.trans st2) hs2 (st1.back hD) nf hacc racc⟩
theorem j_comp {own : List Nat} {gt : TG} {bd : BD} {cond : ET} {elt : EX} (sg : SpG X.K gt bd own) (raw : PE X e (tLc (iW X.K l) gt (tT X.K cond) (tV X.K elt) own)) : PE X e (tL X.K (lComp own l bd cond elt)) := pe_weak raw fun σ H Q q => comp_imp sg q
end
end J

set_option maxHeartbeats 4000000
namespace J
open PySem PySem.Spec PyProof.Rows L2

/-! ## 6. Statements -/
/-- how a statement ends -/
inductive Out where
  | nx (ρ : Env) | rt (d : D) | bk (ρ : Env) | ct (ρ : Env)
abbrev GS := Env → Store → Option (Out × Store)
/-- a place in a def's run; F0, α0, H0: its entry -/
structure At (K : PySem.W.Frag) (F0 : Addr → Prop) (α0 : List Addr) (H0 : Hp) (F : Addr → Prop) (α : List Addr) (H : Hp) (σ : L2.St) (ρ : Env) (S : Store) : Prop where
  st : Step F0 α0 H0 F α H
  sr : StR K F α H S
  en : EnR K F α H σ ρ
  nw : ∀ (i : Nat) (xs : List D) (a : Addr), ρ[i]? = some (.own xs) → σ[i]? = some (some (.ref a)) → H0 a = none
def EndOk (K : PySem.W.Frag) (F0 : Addr → Prop) (α0 : List Addr) (H0 : Hp) (F : Addr → Prop) (α : List Addr) (H : Hp) (S' : Store) (D : Ends) : Out → Prop
  | .nx ρ' => ∀ σ' F' α' H', StepW F α H F' α' H' → At K F0 α0 H0 F' α' H' σ' ρ' S' → D.nx σ' H'
  | .bk ρ' => ∀ σ' F' α' H', StepW F α H F' α' H' → At K F0 α0 H0 F' α' H' σ' ρ' S' → D.bk σ' H'
  | .ct ρ' => ∀ σ' F' α' H', StepW F α H F' α' H' → At K F0 α0 H0 F' α' H' σ' ρ' S' → D.ct σ' H'
  | .rt d => ∀ v F' α' H', Step F0 α0 H0 F' α' H' → StR K F' α' H' S' → Rp K F' α' H' v d → D.rt v H'
def tS (K : PySem.W.Frag) (F0 : Addr → Prop) (α0 : List Addr) (H0 : Hp) (g : GS) : TS := fun D σ H => ∃ F α ρ S o S', At K F0 α0 H0 F α H σ ρ S ∧ g ρ S = some (o, S') ∧ EndOk K F0 α0 H0 F α H S' D o
theorem ps_weak {X : Cx} {st : Stmt} {t t' : TS} (h : PS X st t) (w : ∀ D σ H, t' D σ H → t D σ H) : PS X st t' := ⟨fun pins s σ H D I q => h.run pins s σ H D I (w D σ H q)⟩
theorem pss_weak {X : Cx} {st : List Stmt} {t t' : TS} (h : PSs X st t) (w : ∀ D σ H, t' D σ H → t D σ H) : PSs X st t' := ⟨fun pins s σ H D I q => h.run pins s σ H D I (w D σ H q)⟩

section
variable {K : PySem.W.Frag} {F0 F F' F2 : Addr → Prop} {α0 α α' α2 : List Addr} {H0 H H' H2 : Hp} {S S' S2 : Store} {v : V} {d : D} {ρ ρ' : Env} {ds : List D} {σ σ' : L2.St} {D : Ends} {o : Out}
variable {X : Cx} {a b c e tg : Expr} {es : List Expr} {f h : EX} {r l : EL} {pos p : Pos} {x : Str} {st : Stmt} {rest body : List Stmt} {g g1 g2 : GS}
theorem At.mono (A : At K F0 α0 H0 F α H σ ρ S) (t : Step F α H F' α' H') (s : StR K F' α' H' S') : At K F0 α0 H0 F' α' H' σ ρ S' := ⟨A.st.trans t, s, A.en.mono A.sr t, A.nw⟩
theorem EndOk.mono (t : StepW F α H F' α' H') (q : EndOk K F0 α0 H0 F α H S' D o) : EndOk K F0 α0 H0 F' α' H' S' D o := by
  cases o with
  | nx ρ' => exact fun σ' F2 α2 H2 st A => q σ' F2 α2 H2 (t.trans st) A
  | bk ρ' => exact fun σ' F2 α2 H2 st A => q σ' F2 α2 H2 (t.trans st) A
  | ct ρ' => exact fun σ' F2 α2 H2 st A => q σ' F2 α2 H2 (t.trans st) A
  | rt d => exact q

/-! ### rows -/
def sNil : GS := fun ρ S => some (.nx ρ, S)
def sSeq (g1 g2 : GS) : GS := fun ρ S => match g1 ρ S with
  | some (.nx ρ1, S1) => g2 ρ1 S1
  | some (o, S1) => some (o, S1)
  | none => none
theorem j_nil : PSs X [] (tS X.K F0 α0 H0 sNil) := pss_weak pss_nil fun D σ H ⟨F, α, ρ, S, o, S', A, e, k⟩ => by
  cases e
  exact k σ F α H StepW.refl A
theorem j_seq (q1 : PS X st (tS X.K F0 α0 H0 g1)) (q2 : PSs X rest (tS X.K F0 α0 H0 g2)) : PSs X (st :: rest) (tS X.K F0 α0 H0 (sSeq g1 g2)) := pss_weak (pss_cons q1 q2) fun D σ H ⟨F, α, ρ, S, o, S', A, e, k⟩ => by
  unfold sSeq at e
  split at e
  · rename_i ρ1 S1 e1
    refine ⟨F, α, ρ, S, _, _, A, e1, fun σ1 F1 α1 H1 st1 A1 => ?_⟩
    exact ⟨F1, α1, ρ1, S1, o, S', A1, e, k.mono st1⟩
  · rename_i o1 S1 hn e1
    cases e
    refine ⟨F, α, ρ, S, _, _, A, e1, ?_⟩
    cases o with
    | nx ρ1 => exact absurd rfl (hn ρ1)
    | bk ρ1 => exact k
    | ct ρ1 => exact k
    | rt d => exact k
  · cases e
theorem j_last (q1 : PS X st (tS X.K F0 α0 H0 g1)) : PSs X [st] (tS X.K F0 α0 H0 g1) := pss_one q1
/-- a list of one's own stays from here on -/
def sFreeze (i : Nat) (g : GS) : GS := fun ρ S => match ρ[i]? with
  | some (.own xs) => g (ρ.set i (.d (.lst xs))) S
  | _ => g ρ S
theorem j_freeze (i : Nat) (q : PSs X rest (tS X.K F0 α0 H0 g)) : PSs X rest (tS X.K F0 α0 H0 (sFreeze i g)) := pss_weak q fun D σ H ⟨F, α, ρ, S, o, S', A, e, k⟩ => by
  unfold sFreeze at e
  split at e
  · rename_i xs hi
    obtain ⟨a, vs, e1, e2, nf, ra⟩ := A.en.sl i _ hi
    have n0 := A.nw i xs a hi e1
    have f1 : ∀ b, F b → (F b ∨ b = a) := fun _ h => .inl h
    have sr' : StR X.K (fun b => F b ∨ b = a) α H S := A.sr.fm f1 fun b q => q.elim .inl fun z => .inr (by rw [z, e2]; exact fun z => by cases z)
    have sw : StepW F α H (fun b => F b ∨ b = a) α H := ⟨f1, ⟨[], by simp, fun _ h => by simp at h⟩, fun _ _ h _ _ => h, fun _ h => h⟩
    refine ⟨fun b => F b ∨ b = a, α, ρ.set i (.d (.lst xs)), S, o, S', ⟨?_, sr', ?_, fun j ys b h1 h2 => ?_⟩, e, k.mono sw⟩
    · exact ⟨fun b q => .inl (A.st.fm b q), fun b q => q.elim (A.st.fn b) fun z => .inr (by rw [z]; exact n0), A.st.ap, A.st.hp, A.st.hd⟩
    · have en1 : EnR X.K (fun b => F b ∨ b = a) α H (σ.set i (some (.ref a))) (ρ.set i (.d (.lst xs))) := by
        refine ⟨by rw [List.length_set, List.length_set]; exact A.en.len, fun j s hj => ?_, fun j k ys zs b h1 h2 h3 h4 => ?_⟩
        · by_cases hij : i = j
          · subst hij
            have hil : i < ρ.length := (List.getElem?_eq_some_iff.mp hi).1
            rw [List.getElem?_set_self hil] at hj
            cases hj
            exact ⟨.ref a, by rw [List.getElem?_set_self (by rw [A.en.len]; exact hil)], .lst (.inr rfl) e2 (ra.fm f1)⟩
          · rw [List.getElem?_set_ne hij] at hj ⊢
            have q := A.en.sl j s hj
            cases s with
            | un => exact True.intro
            | d y => obtain ⟨v, q1, q2⟩ := q; exact ⟨v, q1, q2.fm f1⟩
            | own ys =>
              obtain ⟨b, us, q1, q2, q3, q4⟩ := q
              refine ⟨b, us, q1, q2, fun z => z.elim q3 fun z => ?_, q4.fm f1⟩
              subst z
              exact hij (A.en.di i j _ _ _ hi hj e1 q1)
        · have nj : ∀ {j : Nat} {ys : List J.D}, (ρ.set i (.d (.lst xs)))[j]? = some (.own ys) → i ≠ j := fun {j ys} h z => by
            subst z
            rw [List.getElem?_set_self (List.getElem?_eq_some_iff.mp hi).1] at h
            cases h
          have n1 := nj h1
          have n2 := nj h2
          rw [List.getElem?_set_ne n1] at h1 h3
          rw [List.getElem?_set_ne n2] at h2 h4
          exact A.en.di j k ys zs b h1 h2 h3 h4
      have es : σ.set i (some (.ref a)) = σ := by
        obtain ⟨hl, eg⟩ := List.getElem?_eq_some_iff.mp e1
        rw [← eg]
        exact List.set_getElem_self hl
      rw [es] at en1
      exact en1
    · by_cases hij : i = j
      · subst hij
        rw [List.getElem?_set_self (List.getElem?_eq_some_iff.mp hi).1] at h1
        cases h1
      · rw [List.getElem?_set_ne hij] at h1
        exact A.nw j ys b h1 h2
  · exact ⟨F, α, ρ, S, o, S', A, e, k⟩

/-! ### name = value -/
theorem At.bind {A1 : At K F0 α0 H0 F α H σ ρ S} (en : EnR K F α H σ' ρ') (ow : OwnSub σ ρ σ' ρ') : At K F0 α0 H0 F α H σ' ρ' S := ⟨A1.st, A1.sr, en, fun i xs a h1 h2 => by
  obtain ⟨q1, q2⟩ := ow i xs h1
  exact A1.nw i xs a q1 (by rw [← q2]; exact h2)⟩
def sSet (f : EX) (bd : BD) : GS := fun ρ S => match f ρ S with | some (x, S1) => (match bd x ρ with | some ρ1 => some (.nx ρ1, S1) | none => none) | none => none
theorem j_asg {gt : TG} {bd : BD} {vs : List Nat} (sg : SpG X.K gt bd vs) (raw : PS X st (tAsg (tV X.K f) gt)) : PS X st (tS X.K F0 α0 H0 (sSet f bd)) := ps_weak raw fun D σ H ⟨F, α, ρ, S, o, S', A, e, k⟩ => by
  unfold sSet at e
  split at e
  · split at e
    · rename_i x S1 e1 _ ρ1 e2
      cases e
      exact ⟨F, α, ρ, S, x, _, A.sr, A.en, e1, fun v F1 α1 H1 st1 hs1 rv => sg F1 α1 H1 _ σ ρ v x ρ1 _ hs1 (A.en.mono A.sr st1) rv e2 fun σ' en' _ ow => k σ' F1 α1 H1 st1.w (At.bind (A1 := A.mono st1 hs1) en' ow)⟩
    · cases e
  · cases e
/-- a new list gets a name: it is that name's own -/
def sSetL (i : Nat) (r : EL) : GS := fun ρ S => match r ρ S with | some (xs, S1) => some (.nx (ρ.set i (.own xs)), S1) | none => none
theorem EnR.live (e : EnR K F α H σ ρ) {j : Nat} {ys : List J.D} {a : Addr} (h : ρ[j]? = some (.own ys)) (hs : σ[j]? = some (some (.ref a))) : ∃ vs, H a = some (.lst vs) ∧ ¬ F a := by
  obtain ⟨b, vs, q1, q2, q3, _⟩ := e.sl j _ h
  rw [hs] at q1
  cases q1
  exact ⟨vs, q2, q3⟩
theorem At.setO {xs : List J.D} {vs : List V} {a : Addr} (A : At K F0 α0 H0 F α H σ ρ S) (i : Nat) (t : Step F α H F' α' H') (s : StR K F' α' H' S') (hn : H a = none) (nf : ¬ F' a) (hl : H' a = some (.lst vs)) (ra : RpA K F' α' H' vs xs) :
    At K F0 α0 H0 F' α' H' (σ.set i (some (.ref a))) (ρ.set i (.own xs)) S' := by
  refine ⟨A.st.trans t, s, (A.en.mono A.sr t).setO i hl nf ra fun j ys _ h1 h2 => ?_, fun j ys b h1 h2 => ?_⟩
  · obtain ⟨us, q, _⟩ := A.en.live h1 h2
    rw [hn] at q; cases q
  · by_cases hij : i = j
    · subst hij
      have hil : i < σ.length := by
        have := (List.getElem?_eq_some_iff.mp h2).1
        rwa [List.length_set] at this
      rw [List.getElem?_set_self hil] at h2
      cases h2
      exact A.st.back hn
    · rw [List.getElem?_set_ne hij] at h1 h2
      exact A.nw j ys b h1 h2
theorem j_setL {i : Nat} (raw : PS X st (tAsg (tL X.K r) (gName i))) : PS X st (tS X.K F0 α0 H0 (sSetL i r)) := ps_weak raw fun D σ H ⟨F, α, ρ, S, o, S', A, e, k⟩ => by
  unfold sSetL at e
  split at e
  · rename_i xs S1 e1
    cases e
    exact ⟨F, α, ρ, S, xs, _, A.sr, A.en, e1, fun a vs F1 α1 H1 st1 hs1 hn nf hl ra => k _ F1 α1 H1 st1.w (A.setO i st1 hs1 hn nf hl ra)⟩
  · cases e

/-! ### return, if, an expression alone -/
def sRet (f : EX) : GS := fun ρ S => match f ρ S with | some (x, S1) => some (.rt x, S1) | none => none
theorem j_ret (q : PE X a (tV X.K f)) : PS X (.Return (some a) pos) (tS X.K F0 α0 H0 (sRet f)) := ps_weak (ps_ret q) fun D σ H ⟨F, α, ρ, S, o, S', A, e, k⟩ => by
  unfold sRet at e
  split at e
  · rename_i x S1 e1
    cases e
    exact ⟨F, α, ρ, S, x, _, A.sr, A.en, e1, fun v F1 α1 H1 st1 hs1 rv => k v F1 α1 H1 (A.st.trans st1) hs1 rv⟩
  · cases e
def sIf (c : ET) (g1 g2 : GS) : GS := fun ρ S => match c ρ S with | some (true, S1) => g1 ρ S1 | some (false, S1) => g2 ρ S1 | none => none
theorem j_ifS {t : ET} {p q : List Stmt} (hc : PT X c (tT X.K t)) (h1 : PSs X p (tS X.K F0 α0 H0 g1)) (h2 : PSs X q (tS X.K F0 α0 H0 g2)) : PS X (.If c p q pos) (tS X.K F0 α0 H0 (sIf t g1 g2)) := ps_weak (ps_if hc h1 h2) fun D σ H ⟨F, α, ρ, S, o, S', A, e, k⟩ => by
  unfold sIf at e
  split at e
  · rename_i S1 e1
    exact ⟨F, α, ρ, S, _, _, A.sr, A.en, e1, fun F1 α1 H1 st1 hs1 => iteT ⟨F1, α1, ρ, S1, o, S', A.mono st1 hs1, e, k.mono st1.w⟩⟩
  · rename_i S1 e1
    exact ⟨F, α, ρ, S, _, _, A.sr, A.en, e1, fun F1 α1 H1 st1 hs1 => iteF ⟨F1, α1, ρ, S1, o, S', A.mono st1 hs1, e, k.mono st1.w⟩⟩
  · cases e
def sDrop (f : EX) : GS := fun ρ S => match f ρ S with | some (_, S1) => some (.nx ρ, S1) | none => none
theorem j_drop (raw : PS X st (tDrop (tV X.K f))) : PS X st (tS X.K F0 α0 H0 (sDrop f)) := ps_weak raw fun D σ H ⟨F, α, ρ, S, o, S', A, e, k⟩ => by
  unfold sDrop at e
  split at e
  · rename_i x S1 e1
    cases e
    exact ⟨F, α, ρ, S, x, _, A.sr, A.en, e1, fun v F1 α1 H1 st1 hs1 rv => k σ F1 α1 H1 st1.w (A.mono st1 hs1)⟩
  · cases e

/-! ### xs.append(e), xs.extend(e) -/
/-- the own list of slot i becomes another -/
theorem At.change {i : Nat} {a : Addr} {xs ys : List J.D} {vs us : List V} (A : At K F0 α0 H0 F α H σ ρ S) (hi : ρ[i]? = some (.own xs)) (hs : σ[i]? = some (some (.ref a))) (hl : H a = some (.lst vs)) (nf : ¬ F a)
    (rn : RpA K F α H us ys) : At K F0 α0 H0 F α (upd H a (.lst us)) σ (ρ.set i (.own ys)) S := by
  have n0 := A.nw i xs a hi hs
  have sw : StepW F α H F α (upd H a (.lst us)) := StepW.mut hl nf
  have es : σ.set i (some (.ref a)) = σ := by
    obtain ⟨hl, eg⟩ := List.getElem?_eq_some_iff.mp hs
    rw [← eg]
    exact List.set_getElem_self hl
  have hil : i < ρ.length := (List.getElem?_eq_some_iff.mp hi).1
  refine ⟨A.st.mut A.sr n0 hl, A.sr.mut hl nf, ⟨by rw [List.length_set]; exact A.en.len, fun j s hj => ?_, fun j k xs' ys' b h1 h2 h3 h4 => ?_⟩, fun j ys' b h1 h2 => ?_⟩
  · by_cases hij : i = j
    · subst hij
      rw [List.getElem?_set_self hil] at hj
      cases hj
      exact ⟨a, us, hs, upd_same, nf, rn.monoW A.sr sw⟩
    · rw [List.getElem?_set_ne hij] at hj
      have q := A.en.sl j s hj
      cases s with
      | un => exact True.intro
      | d y => obtain ⟨v, q1, q2⟩ := q; exact ⟨v, q1, q2.monoW A.sr sw⟩
      | own zs =>
        obtain ⟨b, ws, q1, q2, q3, q4⟩ := q
        have nb : b ≠ a := fun z => by
          subst z
          exact hij (A.en.di i j _ _ _ hi hj hs q1)
        exact ⟨b, ws, q1, by rw [upd_ne nb]; exact q2, q3, q4.monoW A.sr sw⟩
  · have up : ∀ {j : Nat} {zs : List J.D}, (ρ.set i (.own ys))[j]? = some (.own zs) → ∃ zs', ρ[j]? = some (.own zs') := fun {j zs} h => by
      by_cases hij : i = j
      · subst hij; exact ⟨xs, hi⟩
      · rw [List.getElem?_set_ne hij] at h; exact ⟨zs, h⟩
    obtain ⟨z1, u1⟩ := up h1
    obtain ⟨z2, u2⟩ := up h2
    exact A.en.di j k _ _ b u1 u2 h3 h4
  · by_cases hij : i = j
    · subst hij; exact A.nw i xs b hi h2
    · rw [List.getElem?_set_ne hij] at h1; exact A.nw j ys' b h1 h2
def sApp (i : Nat) (f : EX) : GS := fun ρ S => match ρ[i]? with
  | some (.own xs) => (match f ρ S with | some (x, S1) => if xs.length < sizeLine then some (.nx (ρ.set i (.own (xs ++ [x]))), S1) else none | none => none)
  | _ => none
theorem j_app {i : Nat} (raw : PS X st (tDrop (tBM X.K "list" rAppend (tVar i) (tCons (tV X.K f) tNil)))) : PS X st (tS X.K F0 α0 H0 (sApp i f)) := ps_weak raw fun D σ H ⟨F, α, ρ, S, o, S', A, e, k⟩ => by
  unfold sApp at e
  split at e
  · rename_i xs hi
    split at e
    · split at e
      · rename_i x S1 e1 hz
        cases e
        obtain ⟨a, vs, hs, hl, nf, ra⟩ := A.en.sl i _ hi
        refine ⟨.ref a, hs, .inl ⟨rfl, vs, SqL.of hl⟩, F, α, ρ, S, x, _, A.sr, A.en, e1, fun v F1 α1 H1 st1 hs1 rv => ?_⟩
        have hl1 : H1 a = some (.lst vs) := st1.hp a _ hl (A.sr.outL hl)
        have nf1 : ¬ F1 a := fun z => (st1.fn a z).elim nf fun z => by rw [hl] at z; cases z
        have A1 := A.mono st1 hs1
        refine ⟨a, vs, v, rfl, rfl, hl1, by rw [ra.length]; exact hz, ?_⟩
        exact k σ F1 α1 _ (st1.w.trans (StepW.mut hl1 nf1)) (A1.change hi hs hl1 nf1 ((ra.mono A.sr st1).append (.cons rv .nil)))
      · cases e
    · cases e
  · cases e
def sExt (i : Nat) (f : EX) : GS := fun ρ S => match ρ[i]? with
  | some (.own xs) => (match f ρ S with | some (.lst ys, S1) => if xs.length + ys.length ≤ sizeLine then some (.nx (ρ.set i (.own (xs ++ ys))), S1) else none | _ => none)
  | _ => none
theorem j_ext {i : Nat} (raw : PS X st (tDrop (tBM X.K "list" rExtend (tVar i) (tCons (tW X.K f) tNil)))) : PS X st (tS X.K F0 α0 H0 (sExt i f)) := ps_weak raw fun D σ H ⟨F, α, ρ, S, o, S', A, e, k⟩ => by
  unfold sExt at e
  split at e
  · rename_i xs hi
    split at e
    · split at e
      · rename_i ys S1 e1 hz
        cases e
        obtain ⟨a, vs, hs, hl, nf, ra⟩ := A.en.sl i _ hi
        refine ⟨.ref a, hs, .inl ⟨rfl, vs, SqL.of hl⟩, F, α, ρ, S, _, _, A.sr, A.en, e1, fun v F1 α1 H1 st1 hs1 rv => ?_⟩
        have hl1 : H1 a = some (.lst vs) := st1.hp a _ hl (A.sr.outL hl)
        have nf1 : ¬ F1 a := fun z => (st1.fn a z).elim nf fun z => by rw [hl] at z; cases z
        have A1 := A.mono st1 hs1
        obtain ⟨b, us, rfl, hb, rb⟩ := rv.lst'
        refine ⟨a, b, vs, us, rfl, rfl, hl1, hb, by rw [ra.length, rb.length]; exact hz, ?_⟩
        exact k σ F1 α1 _ (st1.w.trans (StepW.mut hl1 nf1)) (A1.change hi hs hl1 nf1 ((ra.mono A.sr st1).append rb))
      · cases e
    · cases e
  · cases e

/-! ### d[k] = e, d a dict of the store -/
theorem alphaInj {l : List Addr} (nd : l.Nodup) {i j : Nat} {a : Addr} (h1 : l[i]? = some a) (h2 : l[j]? = some a) : i = j := by
  obtain ⟨q1, e1⟩ := List.getElem?_eq_some_iff.mp h1
  obtain ⟨q2, e2⟩ := List.getElem?_eq_some_iff.mp h2
  exact (List.getElem_inj nd).mp (e1.trans e2.symm)
theorem StR.put {n : Nat} {a : Addr} {kvs : List (Key × V)} {o o' : Ob} (s : StR K F α H S) (ha : α[n]? = some a) (hk : H a = some (.dK kvs)) {kvs' : List (Key × V)} (q : ObR K F α H kvs' o') : Step F α H F α (upd H a (.dK kvs')) ∧ StR K F α (upd H a (.dK kvs')) (S.set n o') := by
  have ma : a ∈ α := List.mem_of_getElem? ha
  have st : Step F α H F α (upd H a (.dK kvs')) := ⟨fun _ h => h, fun _ h => .inl h, ⟨[], by simp, fun _ h => by simp at h⟩, fun b u e m => by
    rw [upd_ne (fun z => m (by rw [z]; exact ma))]; exact e, fun b m => by
    by_cases z : b = a
    · exact ⟨kvs', by rw [z, upd_same]⟩
    · obtain ⟨kv, e⟩ := s.at m
      exact ⟨kv, by rw [upd_ne z]; exact e⟩⟩
  refine ⟨st, ⟨by rw [List.length_set]; exact s.len, s.nd, fun b f e => ?_, fun m b hb => ?_⟩⟩
  · by_cases z : b = a
    · rw [z, upd_same] at e; cases e
    · rw [upd_ne z] at e; exact s.fa b f e
  · by_cases z : b = a
    · subst z
      have em := alphaInj s.nd hb ha
      subst em
      have hm : m < S.length := by rw [← s.len]; exact (List.getElem?_eq_some_iff.mp hb).1
      exact ⟨kvs', o', by rw [List.getElem?_set_self hm], upd_same, pairedImp q fun _ _ z => ⟨z.1, z.2.mono s st⟩⟩
    · have nm : n ≠ m := fun z2 => by
        subst z2
        rw [ha] at hb
        exact z (Option.some.inj hb).symm
      obtain ⟨kv, u, e1, e2, e3⟩ := s.ob m b hb
      exact ⟨kv, u, by rw [List.getElem?_set_ne nm]; exact e1, by rw [upd_ne z]; exact e2, pairedImp e3 fun _ _ z => ⟨z.1, z.2.mono s st⟩⟩
def sPut (fo fk fv : EX) : GS := fun ρ S => match fv ρ S with
  | some (x, S1) => (match fo ρ S1 with
    | some (.obj n, S2) => (match fk ρ S2 with
      | some (.str m, S3) => (match S3[n]? with | some o => if o.length < sizeLine then some (.nx ρ, S3.set n (obPut o m x)) else none | none => none)
      | _ => none)
    | _ => none)
  | none => none
theorem j_put {fo fk fv : EX} (raw : PS X st (sDPut (tW X.K fo) (tW X.K fk) (tV X.K fv))) : PS X st (tS X.K F0 α0 H0 (sPut fo fk fv)) := ps_weak raw fun D σ H ⟨F, α, ρ, S, out, S', A, e, k⟩ => by
  unfold sPut at e
  split at e
  · rename_i x S1 e1
    split at e
    · rename_i n S2 e2
      split at e
      · rename_i m S3 e3
        split at e
        · rename_i o eo
          split at e
          · rename_i hz
            cases e
            refine ⟨F, α, ρ, S, x, S1, A.sr, A.en, e1, fun v F1 α1 H1 st1 hs1 rv => ⟨F1, α1, ρ, S1, _, S2, hs1, A.en.mono A.sr st1, e2, fun w F2 α2 H2 st2 hs2 rw2 => ⟨F2, α2, ρ, S2, _, S3, hs2, (A.en.mono A.sr st1).mono hs1 st2, e3, fun u F3 α3 H3 st3 hs3 ru => ?_⟩⟩⟩
            obtain ⟨a, rfl, ha⟩ := (rw2.mono hs2 st3).obj'
            cases ru.str
            obtain ⟨kvs, o', q1, q2, q3⟩ := hs3.ob n a ha
            rw [eo] at q1; cases q1
            have rv3 := (rv.mono hs1 st2).mono hs2 st3
            obtain ⟨st4, hs4⟩ := hs3.put (o := o) (o' := obPut o m x) ha q2 (obR_put rv3 q3)
            have sta := (st1.trans st2).trans st3
            refine ⟨a, _, rfl, DPut.k (k := Sum.inr m) q2 (by rw [pairedLen q3]; exact hz), ?_⟩
            exact k σ F3 α3 _ (sta.trans st4).w ((A.mono sta hs3).mono st4 hs4)
          · cases e
        · cases e
      · cases e
    · cases e
  · cases e

/-! ### for -/
/-- the turns -/
def forGo (bd : BD) (body : GS) : List J.D → GS
  | [], ρ, S => some (.nx ρ, S)
  | x :: xs, ρ, S => match bd x ρ with
    | none => none
    | some ρ1 => match body ρ1 S with
      | some (.nx ρ2, S2) => forGo bd body xs ρ2 S2
      | some (.ct ρ2, S2) => forGo bd body xs ρ2 S2
      | some (.bk ρ2, S2) => some (.nx ρ2, S2)
      | some (.rt d, S2) => some (.rt d, S2)
      | none => none
def sFor (l : EL) (bd : BD) (body : GS) : GS := fun ρ S => match l ρ S with | some (xs, S1) => forGo bd body xs ρ S1 | none => none
def ForW (K : PySem.W.Frag) (F0 : Addr → Prop) (α0 : List Addr) (H0 : Hp) (Fs : Addr → Prop) (αs : List Addr) (Hs : Hp) (S' : Store) (D : Ends) (bd : BD) (body : GS) (xs : List J.D) (o : Out) : Nat → Nat → L2.St → Hp → Prop := fun i m σ H =>
  m = xs.length - i ∧ i ≤ xs.length ∧ ∃ F α ρ S, StepW Fs αs Hs F α H ∧ At K F0 α0 H0 F α H σ ρ S ∧ forGo bd body (xs.drop i) ρ S = some (o, S') ∧ EndOk K F0 α0 H0 F α H S' D o
theorem j_for {bd : BD} {gt : TG} {vs : List Nat} (sg : SpG X.K gt bd vs) (raw : PS X st (tFor (iJ X.K l) gt (tS X.K F0 α0 H0 g))) : PS X st (tS X.K F0 α0 H0 (sFor l bd g)) := ps_weak raw fun D σ H ⟨F, α, ρ, S, o, S', A, e, k⟩ => by
  unfold sFor at e
  split at e
  · rename_i xs S1 e1
    refine ⟨F, α, ρ, S, xs, S1, A.sr, A.en, e1, fun Jt F1 α1 H1 st1 hs1 wk => ?_⟩
    refine ⟨ForW X.K F0 α0 H0 F1 α1 H1 S' D bd g xs o, ⟨xs.length, by simp, Nat.zero_le _, F1, α1, ρ, S1, StepW.refl, A.mono st1 hs1, by rw [List.drop_zero]; exact e, k.mono st1.w⟩, ?_⟩
    rintro i m σ2 H2 ⟨rfl, hi, F2, α2, ρ2, S2, sw2, A2, hgo, k2⟩
    by_cases hlt : i < xs.length
    · have hx : xs[i]? = some xs[i] := List.getElem?_eq_getElem hlt
      rw [dropCons hx] at hgo
      refine .inr ⟨wk.go i F2 α2 H2 S2 sw2 A2.sr hlt, fun σ' H' => ∃ m', m' < xs.length - i ∧ ForW X.K F0 α0 H0 F1 α1 H1 S' D bd g xs o (i + 1) m' σ' H', fun σ' H' q => q, fun y H3 hy => ?_⟩
      obtain ⟨dx, F3, hdx, st3, hs3, rdx⟩ := wk.yld i F2 α2 H2 S2 y H3 sw2 A2.sr hy hlt
      rw [hx] at hdx
      cases hdx
      unfold forGo at hgo
      split at hgo
      · cases hgo
      · rename_i ρ3 eb
        have A3 := A2.mono st3 hs3
        refine sg F3 α2 H3 S2 σ2 ρ2 y xs[i] ρ3 _ hs3 A3.en rdx eb fun σ4 en4 _ ow4 => ?_
        have A4 : At X.K F0 α0 H0 F3 α2 H3 σ4 ρ3 S2 := At.bind (A1 := A3) en4 ow4
        have sw3 : StepW F1 α1 H1 F3 α2 H3 := sw2.trans st3.w
        split at hgo
        · rename_i ρ5 S5 e5
          refine ⟨F3, α2, ρ3, S2, _, _, A4, e5, fun σ6 F6 α6 H6 sw6 A6 => ⟨xs.length - (i + 1), by omega, rfl, hlt, F6, α6, ρ5, S5, sw3.trans sw6, A6, hgo, k2.mono (st3.w.trans sw6)⟩⟩
        · rename_i ρ5 S5 e5
          refine ⟨F3, α2, ρ3, S2, _, _, A4, e5, fun σ6 F6 α6 H6 sw6 A6 => ⟨xs.length - (i + 1), by omega, rfl, hlt, F6, α6, ρ5, S5, sw3.trans sw6, A6, hgo, k2.mono (st3.w.trans sw6)⟩⟩
        · rename_i ρ5 S5 e5
          cases hgo
          exact ⟨F3, α2, ρ3, S2, _, _, A4, e5, fun σ6 F6 α6 H6 sw6 A6 => k2 σ6 F6 α6 H6 (st3.w.trans sw6) A6⟩
        · rename_i d5 S5 e5
          cases hgo
          exact ⟨F3, α2, ρ3, S2, _, _, A4, e5, k2⟩
        · cases hgo
    · have ei : i = xs.length := by omega
      subst ei
      rw [List.drop_length] at hgo
      cases hgo
      exact .inl ⟨wk.stop _ F2 α2 H2 _ sw2 A2.sr (Nat.le_refl _), k2 σ2 F2 α2 H2 StepW.refl A2⟩
  · cases e

/-! ### a def -/
def runDef (n : Nat) (g : GS) : FN := fun ds S => match g (ds.map Slot.d ++ List.replicate (n - ds.length) .un) S with
  | some (.rt d, S') => some (d, S')
  | some (.nx _, S') => some (.non, S')
  | _ => none
theorem start_own {ds : List J.D} {n : Nat} (j : Nat) (xs : List J.D) : (ds.map Slot.d ++ List.replicate n .un)[j]? ≠ some (.own xs) := fun h => by
  by_cases hj : j < ds.length
  · rw [List.getElem?_append_left (by rw [List.length_map]; exact hj), List.getElem?_map] at h
    cases q : ds[j]? with
    | none => rw [q] at h; cases h
    | some z => rw [q] at h; cases h
  · rw [List.getElem?_append_right (by rw [List.length_map]; omega), List.getElem?_replicate] at h
    split at h <;> cases h
theorem enr_start : ∀ {vs : List V} {ds : List J.D} {n : Nat}, RpA K F α H vs ds → EnR K F α H (vs.map some ++ List.replicate n none) (ds.map Slot.d ++ List.replicate n .un) := by
  intro vs ds n r
  have hl := r.length
  refine ⟨by simp [hl], fun i s h => ?_, fun i j xs ys a h1 _ _ _ => absurd h1 (start_own i xs)⟩
  cases s with
  | un => exact True.intro
  | own xs => exact absurd h (start_own i xs)
  | d x =>
    by_cases hi : i < ds.length
    · rw [List.getElem?_append_left (by rw [List.length_map]; exact hi), List.getElem?_map] at h
      cases q : ds[i]? with
      | none => rw [q] at h; cases h
      | some z =>
        rw [q] at h; cases h
        obtain ⟨v, h1, h2⟩ := r.getD q
        refine ⟨v, ?_, h2⟩
        rw [List.getElem?_append_left (by rw [List.length_map, hl]; exact hi), List.getElem?_map, h1]; rfl
    · rw [List.getElem?_append_right (by rw [List.length_map]; omega), List.getElem?_replicate] at h
      split at h <;> cases h
theorem def_ok {P : Program} {w : World} {mg : Str → Option Value} {base : Heap} {x qual : Str} {st : Stmt} {fa : Addr} {fd : FuncData} {N ps : List Str} {k : Nat} {g : GS} (Fn : Fun K x qual st fa fd) (Sc : FnScope N ps (defScope st))
    (hb : ∀ (cdv : Value) (A : Around) (outer : List PySem.Env) (s : Shared) (H : Hp) (E : XK) (F0 : Addr → Prop) (α0 : List Addr), Room k (A.deeper (envOfC qual (defScope st) s.heap.objs.size fa cdv)) →
      PSs (cxOf CX0 P w K mg base N qual (defScope st) fa cdv A outer s H E).nox (defBody st) (tS K F0 α0 H g)) : FnOk P w K mg base CX0 (k + 1) fa fd ps (spF K (runDef N.length g) ps.length) := by
  refine Fn.ok Sc (fun vs H Q E h => h.1) fun cdv A outer s H vs Q E hr h => ?_
  obtain ⟨hl, F, α, S, ds, d, S', hs, ra, e, q⟩ := h
  refine ⟨_, hb cdv A outer s H E F α hr, ?_⟩
  have at0 : At K F α H F α H (L2.start N vs) (ds.map Slot.d ++ List.replicate (N.length - ds.length) .un) S := by
    refine ⟨Step.refl hs, hs, ?_, fun i xs a h1 _ => absurd h1 (start_own i xs)⟩
    show EnR K F α H (vs.map some ++ List.replicate (N.length - vs.length) none) _
    rw [ra.length]
    exact enr_start ra
  unfold runDef at e
  split at e
  · rename_i d1 S1 e1
    cases e
    exact ⟨F, α, _, S, _, _, at0, e1, fun v F' α' H' st hs' r => q v F' α' H' st hs' r⟩
  · rename_i ρ1 S1 e1
    cases e
    exact ⟨F, α, _, S, _, _, at0, e1, fun σ' F' α' H' sw A' => q _ F' α' H' A'.st A'.sr .non⟩
  · cases e
end
end J

set_option maxHeartbeats 4000000
namespace J
open PySem PySem.Spec PyProof.Rows L2

section
variable {K : PySem.W.Frag} {F0 F F' F2 : Addr → Prop} {α0 α α' α2 : List Addr} {H0 H Hs H' H2 : Hp} {S S' S2 : Store} {v : V} {d : D} {ρ ρ' : Env} {ds : List D} {σ σ' : L2.St} {D' : Ends} {o : Out}
variable {X : Cx} {a b c e tg : Expr} {es : List Expr} {f h : EX} {r l : EL} {pos p : Pos} {x : Str} {st : Stmt} {rest body : List Stmt} {g g1 g2 : GS}
/-! ### a, b = x, y : values, some of them new lists -/
abbrev EM := Env → Store → Option (List Slot × Store)
def mN : EM := fun _ S => some ([], S)
def mD (f : EX) (m : EM) : EM := fun ρ S => match f ρ S with | some (x, S1) => (match m ρ S1 with | some (ss, S2) => some (.d x :: ss, S2) | none => none) | none => none
def mO (l : EL) (m : EM) : EM := fun ρ S => match l ρ S with | some (xs, S1) => (match m ρ S1 with | some (ss, S2) => some (.own xs :: ss, S2) | none => none) | none => none
def NoRef (a : Addr) (vs : List V) (ss : List Slot) : Prop := ∀ (j : Nat) (ys : List D), ss[j]? = some (.own ys) → vs[j]? ≠ some (.ref a)
inductive RpM (K : PySem.W.Frag) (F : Addr → Prop) (α : List Addr) (H Hs : Hp) : List V → List Slot → Prop
  | nil : RpM K F α H Hs [] []
  | d {v : V} {x : D} {vs : List V} {ss : List Slot} : Rp K F α H v x → RpM K F α H Hs vs ss → RpM K F α H Hs (v :: vs) (.d x :: ss)
  | o {a : Addr} {ws vs : List V} {xs : List D} {ss : List Slot} : H a = some (.lst ws) → ¬ F a → RpA K F α H ws xs → Hs a = none → NoRef a vs ss → RpM K F α H Hs vs ss → RpM K F α H Hs (.ref a :: vs) (.own xs :: ss)
theorem RpM.live : ∀ {vs : List V} {ss : List Slot} {j : Nat} {ys : List D} {a : Addr}, RpM K F α H Hs vs ss → ss[j]? = some (.own ys) → vs[j]? = some (.ref a) → Hs a = none
  | _, _, j, ys, a, .nil, h, _ => by simp at h
  | _, _, 0, ys, a, .d _ _, h, _ => by simp at h
  | _, _, j + 1, ys, a, .d _ r, h, q => RpM.live (j := j) r (by simpa using h) (by simpa using q)
  | _, _, 0, ys, a, .o _ _ _ n _ _, h, q => by simp at q; subst q; exact n
  | _, _, j + 1, ys, a, .o _ _ _ _ _ r, h, q => RpM.live (j := j) r (by simpa using h) (by simpa using q)
/-- seen from an earlier heap -/
theorem RpM.back (bk : ∀ a, Hs a = none → H2 a = none) : ∀ {vs : List V} {ss : List Slot}, RpM K F α H Hs vs ss → RpM K F α H H2 vs ss
  | _, _, .nil => .nil
  | _, _, .d r q => .d r (RpM.back bk q)
  | _, _, .o h nf r n nr q => .o h nf r (bk _ n) nr (RpM.back bk q)
def tMs (K : PySem.W.Frag) (m : EM) : TA := fun σ H Q => ∃ F α ρ S ss S', StR K F α H S ∧ EnR K F α H σ ρ ∧ m ρ S = some (ss, S') ∧
  ∀ vs F' α' H', Step F α H F' α' H' → StR K F' α' H' S' → RpM K F' α' H' H vs ss → Q vs H'
theorem j_mn : PA X [] (tMs X.K mN) := pa_weak pa_nil fun σ H Q ⟨F, α, ρ, S, d, S', h1, h2, h3, k⟩ => by
  cases h3
  exact k [] F α H (Step.refl h1) h1 .nil
theorem j_md {m : EM} (q1 : PE X a (tV X.K f)) (q2 : PA X es (tMs X.K m)) (hs : starEach (a :: es) X.env = (false, eval a X.env) :: starEach es X.env := by rfl) : PA X (a :: es) (tMs X.K (mD f m)) :=
  pa_weak (pa_cons q1 q2 hs) fun σ H Q ⟨F, α, ρ, S, d, S', h1, h2, h3, k⟩ => by
    unfold mD at h3
    split at h3
    · split at h3
      · rename_i x S1 e1 _ ss S2 e2
        cases h3
        exact ⟨F, α, ρ, S, x, S1, h1, h2, e1, fun v F1 α1 H1 st1 hs1 rv => ⟨F1, α1, ρ, S1, ss, _, hs1, h2.mono h1 st1, e2, fun vs F2 α2 H2 st2 hs2 rv2 =>
          k _ F2 α2 H2 (st1.trans st2) hs2 (.d (rv.mono hs1 st2) (rv2.back fun _ z => st1.back z))⟩⟩
      · cases h3
    · cases h3
theorem j_mo {m : EM} (q1 : PE X a (tL X.K l)) (q2 : PA X es (tMs X.K m)) (hs : starEach (a :: es) X.env = (false, eval a X.env) :: starEach es X.env := by rfl) : PA X (a :: es) (tMs X.K (mO l m)) :=
  pa_weak (pa_cons q1 q2 hs) fun σ H Q ⟨F, α, ρ, S, d, S', h1, h2, h3, k⟩ => by
    unfold mO at h3
    split at h3
    · split at h3
      · rename_i xs S1 e1 _ ss S2 e2
        cases h3
        refine ⟨F, α, ρ, S, xs, S1, h1, h2, e1, fun b ws F1 α1 H1 st1 hs1 hn nf hl ra => ⟨F1, α1, ρ, S1, ss, _, hs1, h2.mono h1 st1, e2, fun vs F2 α2 H2 st2 hs2 rv2 => ?_⟩⟩
        refine k _ F2 α2 H2 (st1.trans st2) hs2 (.o (st2.hp b _ hl (hs1.outL hl)) (fun z => (st2.fn b z).elim nf fun z => by rw [hl] at z; cases z) (ra.mono hs1 st2) hn (fun j ys h1 h2 => ?_) (rv2.back fun _ z => st1.back z))
        have := rv2.live h1 h2
        rw [hl] at this; cases this
      · cases h3
    · cases h3
def setsV (σ : L2.St) : List Nat → List V → L2.St
  | i :: is, v :: vs => setsV (σ.set i (some v)) is vs
  | _, _ => σ
def setsS (ρ : Env) : List Nat → List Slot → Env
  | i :: is, s :: ss => setsS (ρ.set i s) is ss
  | _, _ => ρ
theorem At.setM (bk : ∀ a, Hs a = none → H0 a = none) : ∀ {vs : List V} {ss : List Slot} {is : List Nat} {σ : L2.St} {ρ : Env}, At K F0 α0 H0 F α H σ ρ S → RpM K F α H Hs vs ss →
    (∀ (j : Nat) (ys : List D) (a : Addr), ρ[j]? = some (.own ys) → σ[j]? = some (some (.ref a)) → NoRef a vs ss) → At K F0 α0 H0 F α H (setsV σ is vs) (setsS ρ is ss) S
  | _, _, [], σ, ρ, A, r, _ => by cases r <;> exact A
  | _, _, i :: is, σ, ρ, A, .nil, _ => A
  | _, _, i :: is, σ, ρ, A, .d (v := v) (x := x) rv r, no => by
    have A1 : At K F0 α0 H0 F α H (σ.set i (some v)) (ρ.set i (.d x)) S := At.bind (A1 := A) (A.en.set i rv) OwnSub.set
    refine At.setM (σ := σ.set i (some v)) (ρ := ρ.set i (.d x)) (is := is) bk A1 r fun j ys a h1 h2 => ?_
    obtain ⟨q1, q2⟩ := OwnSub.set (σ := σ) (x := some v) j ys h1
    have n := no j ys a q1 (by rw [← q2]; exact h2)
    exact fun m zs z1 z2 => n (m + 1) zs (by simpa using z1) (by simpa using z2)
  | _, _, i :: is, σ, ρ, A, .o (a := a) (ws := ws) (vs := vs) (xs := xs) (ss := ss) hl nf ra hn nr r, no => by
    have en1 : EnR K F α H (σ.set i (some (.ref a))) (ρ.set i (.own xs)) := A.en.setO i hl nf ra fun j ys _ h1 h2 => no j ys a h1 h2 0 xs (by simp) (by simp)
    have A1 : At K F0 α0 H0 F α H (σ.set i (some (.ref a))) (ρ.set i (.own xs)) S := ⟨A.st, A.sr, en1, fun j ys b h1 h2 => by
      by_cases hij : i = j
      · subst hij
        have hil : i < σ.length := by
          have := (List.getElem?_eq_some_iff.mp h2).1
          rwa [List.length_set] at this
        rw [List.getElem?_set_self hil] at h2
        cases h2
        exact bk a hn
      · rw [List.getElem?_set_ne hij] at h1 h2
        exact A.nw j ys b h1 h2⟩
    refine At.setM (σ := σ.set i (some (.ref a))) (ρ := ρ.set i (.own xs)) (is := is) bk A1 r fun j ys b h1 h2 => ?_
    by_cases hij : i = j
    · subst hij
      have hil : i < σ.length := by
        have := (List.getElem?_eq_some_iff.mp h2).1
        rwa [List.length_set] at this
      rw [List.getElem?_set_self hil] at h2
      cases h2
      exact nr
    · rw [List.getElem?_set_ne hij] at h1 h2
      have n := no j ys b h1 h2
      exact fun m zs z1 z2 => n (m + 1) zs (by simpa using z1) (by simpa using z2)
def sPar (is : List Nat) (m : EM) : GS := fun ρ S => match m ρ S with | some (ss, S1) => if ss.length = is.length then some (.nx (setsS ρ is ss), S1) else none | none => none
theorem RpM.len : ∀ {vs : List V} {ss : List Slot}, RpM K F α H Hs vs ss → vs.length = ss.length
  | _, _, .nil => rfl
  | _, _, .d _ r => by rw [List.length_cons, List.length_cons, RpM.len r]
  | _, _, .o _ _ _ _ _ r => by rw [List.length_cons, List.length_cons, RpM.len r]
theorem par_at {m : EM} {is : List Nat} {ss : List Slot} {vs : List V} {F1 : Addr → Prop} {α1 : List Addr} {H1 : Hp} {S1 : Store} (A : At K F0 α0 H0 F α H σ ρ S) (st1 : Step F α H F1 α1 H1) (hs1 : StR K F1 α1 H1 S1) (rm : RpM K F1 α1 H1 H vs ss) :
    At K F0 α0 H0 F1 α1 H1 (setsV σ is vs) (setsS ρ is ss) S1 :=
  (A.mono st1 hs1).setM (fun _ z => A.st.back z) (is := is) rm fun j ys a h1 h2 m zs z1 z2 => by
    obtain ⟨us, q, _⟩ := A.en.live h1 h2
    have := rm.live z1 z2
    rw [q] at this; cases this
theorem len2 {α : Type} {l : List α} (h : l.length = 2) : ∃ a b, l = [a, b] := by
  cases l with
  | nil => cases h
  | cons a l => cases l with
    | nil => cases h
    | cons b l => cases l with
      | nil => exact ⟨a, b, rfl⟩
      | cons c l => simp at h
theorem len3 {α : Type} {l : List α} (h : l.length = 3) : ∃ a b c, l = [a, b, c] := by
  cases l with
  | nil => cases h
  | cons a l =>
    obtain ⟨b, c, rfl⟩ := len2 (l := l) (by simpa using h)
    exact ⟨a, b, c, rfl⟩
/-- the stores from the right (plain local names) -/
theorem j_par2 {m : EM} {i j : Nat} (raw : PS X st (tPar i j (tMs X.K m))) : PS X st (tS X.K F0 α0 H0 (sPar [i, j] m)) := ps_weak raw fun D σ H ⟨F, α, ρ, S, o, S', A, e, k⟩ => by
  unfold sPar at e
  split at e
  · split at e
    · rename_i ss S1 e1 hlen
      cases e
      refine ⟨F, α, ρ, S, ss, _, A.sr, A.en, e1, fun vs F1 α1 H1 st1 hs1 rm => ?_⟩
      obtain ⟨v, w, rfl⟩ := len2 (l := vs) (by rw [rm.len]; exact hlen)
      exact ⟨v, w, rfl, k _ F1 α1 H1 st1.w (par_at (m := m) (is := [i, j]) A st1 hs1 rm)⟩
    · cases e
  · cases e
theorem j_par3 {m : EM} {i j n : Nat} (raw : PS X st (tPar3 i j n (tMs X.K m))) : PS X st (tS X.K F0 α0 H0 (sPar [i, j, n] m)) := ps_weak raw fun D σ H ⟨F, α, ρ, S, o, S', A, e, k⟩ => by
  unfold sPar at e
  split at e
  · split at e
    · rename_i ss S1 e1 hlen
      cases e
      refine ⟨F, α, ρ, S, ss, _, A.sr, A.en, e1, fun vs F1 α1 H1 st1 hs1 rm => ?_⟩
      obtain ⟨u, v, w, rfl⟩ := len3 (l := vs) (by rw [rm.len]; exact hlen)
      exact ⟨u, v, w, rfl, k _ F1 α1 H1 st1.w (par_at (m := m) (is := [i, j, n]) A st1 hs1 rm)⟩
    · cases e
  · cases e
/-- names one after another -/
def gNames : List Nat → TGs
  | [] => gNil
  | i :: is => gCons (gName i) (gNames is)
theorem gNames_go : ∀ {is : List Nat} {vs : List V} {σ : L2.St} {H : Hp} {Q : L2.St → Hp → Prop}, vs.length = is.length → Q (setsV σ is vs) H → gNames is vs σ H Q
  | [], vs, σ, H, Q, hl, q => by
    cases vs with
    | nil => exact ⟨rfl, q⟩
    | cons _ _ => cases hl
  | i :: is, vs, σ, H, Q, hl, q => by
    cases vs with
    | nil => cases hl
    | cons v vs => exact ⟨v, vs, rfl, gNames_go (is := is) (σ := σ.set i (some v)) (by simpa using hl) q⟩
/-- a tuple is made and taken apart (a cell among the names) -/
theorem j_parC {m : EM} {is : List Nat} {n : Nat} (raw : PS X st (tAsg (tTup (tMs X.K m)) (gTup X.K n (gNames is)))) (hn : n = is.length) (h9 : n ≤ 1000) : PS X st (tS X.K F0 α0 H0 (sPar is m)) := ps_weak raw fun D σ H ⟨F, α, ρ, S, o, S', A, e, k⟩ => by
  unfold sPar at e
  split at e
  · split at e
    · rename_i ss S1 e1 hlen
      cases e
      refine ⟨F, α, ρ, S, ss, _, A.sr, A.en, e1, fun vs F1 α1 H1 st1 hs1 rm => ⟨by rw [rm.len, hlen, ← hn, sizeLine_eq]; omega, fun p hp => ?_⟩⟩
      have A2 := (par_at (m := m) (is := is) A st1 hs1 rm).mono (Step.new (o := .tup vs) hs1 hp) (hs1.new hp)
      exact ⟨p, vs, rfl, SqT.of upd_same, by rw [rm.len, hlen, hn], gNames_go (by rw [rm.len, hlen]) (k _ F1 α1 _ (st1.trans (Step.new hs1 hp)).w A2)⟩
    · cases e
  · cases e

/-! ### a written dict: a new one in the store -/
def dGo : List (Str × EX) → Env → Store → Option (Ob × Store)
  | [], _, S => some ([], S)
  | (k, f) :: r, ρ, S => match f ρ S with
    | some (x, S1) => (match dGo r ρ S1 with | some (o, S2) => some ((k, x) :: o, S2) | none => none)
    | none => none
def eDict (ks : List (Str × EX)) : EX := fun ρ S => match dGo ks ρ S with | some (o, S1) => some (.obj S1.length, S1 ++ [o]) | none => none
def trsOf (K : PySem.W.Frag) (ks : List (Str × EX)) : List (TE × TE) := ks.map fun p => (tC (.str p.1), tV K p.2)
theorem dGo_pairs {K : PySem.W.Frag} : ∀ {ks : List (Str × EX)} {F : Addr → Prop} {α : List Addr} {H : Hp} {S S' : Store} {σ : L2.St} {ρ : Env} {o : Ob} {Q : List (V × V) → Hp → Prop}, StR K F α H S → EnR K F α H σ ρ → dGo ks ρ S = some (o, S') →
    (∀ kvs F' α' H', Step F α H F' α' H' → StR K F' α' H' S' → ObR K F' α' H' kvs o → kvs.map (·.1) = ks.map (fun p => Sum.inr p.1) → Q (kvs.map fun kv => (kV kv.1, kv.2)) H') → tPairs (trsOf K ks) σ H Q
  | [], F, α, H, S, S', σ, ρ, o, Q, hs, en, e, k => by
    cases e
    exact k [] F α H (Step.refl hs) hs .nil rfl
  | (m, f) :: r, F, α, H, S, S', σ, ρ, o, Q, hs, en, e, k => by
    unfold dGo at e
    split at e
    · split at e
      · rename_i x S1 e1 _ o1 S2 e2
        cases e
        refine ⟨F, α, ρ, S, x, S1, hs, en, e1, fun v F1 α1 H1 st1 hs1 rv => ?_⟩
        exact dGo_pairs hs1 (en.mono hs st1) e2 fun kvs F2 α2 H2 st2 hs2 ro ek => k ((Sum.inr m, v) :: kvs) F2 α2 H2 (st1.trans st2) hs2 (.cons ⟨rfl, rv.mono hs1 st2⟩ ro) (by rw [List.map_cons, List.map_cons, ek])
      · cases e
    · cases e
theorem merge_nodup : ∀ {more acc : List (Key × V)}, (acc.map (·.1) ++ more.map (·.1)).Nodup → mergeK acc more = acc ++ more
  | [], acc, _ => by rw [List.append_nil]; rfl
  | p :: r, acc, h => by
    show mergeK (putK acc p.1 p.2) r = _
    have hn : (acc.any fun kv => decide (kv.1 = p.1)) = false := by
      rw [List.any_eq_false]
      intro kv m z
      have e : kv.1 = p.1 := of_decide_eq_true z
      rw [List.nodup_append] at h
      exact h.2.2 kv.1 (List.mem_map_of_mem m) p.1 (by rw [List.map_cons]; exact List.mem_cons_self) e
    have e : putK acc p.1 p.2 = acc ++ [p] := by
      unfold putK
      rw [if_neg (by rw [hn]; exact Bool.false_ne_true)]
    rw [e, merge_nodup (by rw [List.map_append, List.append_assoc]; exact h), List.append_assoc]; rfl
theorem j_dict {ks : List (Str × EX)} (raw : PE X e (tDisp (trsOf X.K ks))) (hk : (ks.map (·.1)).Nodup) (h15 : ks.length ≤ 15) : PE X e (tV X.K (eDict ks)) := pe_weak raw fun σ H Q ⟨F, α, ρ, S, d, S', h1, h2, h3, k⟩ => by
  unfold eDict at h3
  split at h3
  · rename_i o S1 e1
    cases h3
    intro p hp
    have st0 : Step F α H F α (upd H p (.dK [])) := Step.new h1 hp
    refine dGo_pairs (h1.new hp) (h2.mono h1 st0) e1 fun kvs F1 α1 H1 st1 hs1 ro ek => ?_
    have np : p ∉ α := fun m => by
      obtain ⟨kv, q⟩ := h1.at m
      rw [hp] at q; cases q
    have hp1 : H1 p = some (.dK []) := st1.hp p _ upd_same np
    have np1 : p ∉ α1 := fun m => by
      obtain ⟨more, ea, hm⟩ := st1.ap
      rw [ea] at m
      rcases List.mem_append.mp m with m | m
      · exact np m
      · have := hm p m
        rw [upd_same] at this; cases this
    have hl : kvs.length ≤ 15 := by
      have := congrArg List.length ek
      rw [List.length_map, List.length_map] at this
      omega
    refine ⟨hp1, kvs, rfl, hl, ?_⟩
    have nd : (kvs.map (·.1)).Nodup := by
      rw [ek]
      have q : (ks.map fun p => (Sum.inr p.1 : Key)) = (ks.map (·.1)).map Sum.inr := by rw [List.map_map]; rfl
      rw [q]
      exact List.Pairwise.map _ (fun a b h e => h (Sum.inr.inj e)) hk
    rw [merge_nodup (acc := []) (by simpa using nd), List.nil_append]
    have st : Step F α H F1 α1 H1 := st0.trans st1
    have sw : ∀ {a : Addr} {w : HO}, H1 a = some w → a ≠ p → upd H1 p (.dK kvs) a = some w := fun {a w} q n => by rw [upd_ne n]; exact q
    have st2 : Step F1 α1 H1 F1 (α1 ++ [p]) (upd H1 p (.dK kvs)) → True := fun _ => True.intro
    have stF : Step F α H F1 (α1 ++ [p]) (upd H1 p (.dK kvs)) := by
      refine ⟨st.fm, st.fn, ?_, fun a w q n => ?_, fun a m => ?_⟩
      · obtain ⟨more, ea, hm⟩ := st.ap
        refine ⟨more ++ [p], by rw [ea, List.append_assoc], fun a m => ?_⟩
        rcases List.mem_append.mp m with m | m
        · exact hm a m
        · rw [List.mem_singleton.mp m]; exact hp
      · exact sw (st.hp a w q n) (ne_of_none q hp)
      · obtain ⟨kv, q⟩ := st.hd a m
        exact ⟨kv, sw q fun z => np (by rw [← z]; exact m)⟩
    -- what stood at H1 stands, but for p
    have keep : StepW F1 α1 H1 F1 (α1 ++ [p]) (upd H1 p (.dK kvs)) → True := fun _ => True.intro
    have rpUp : ∀ (v : V) (x : D), Rp X.K F1 α1 H1 v x → Rp X.K F1 (α1 ++ [p]) (upd H1 p (.dK kvs)) v x := by
      have two : (∀ (v : V) (x : D), Rp X.K F1 α1 H1 v x → Rp X.K F1 (α1 ++ [p]) (upd H1 p (.dK kvs)) v x) ∧ (∀ (vs : List V) (xs : List D), RpA X.K F1 α1 H1 vs xs → RpA X.K F1 (α1 ++ [p]) (upd H1 p (.dK kvs)) vs xs) := by
        refine ⟨fun v x r => ?_, fun vs xs r => ?_⟩
        · exact Rp.rec (motive_1 := fun v x _ => Rp X.K F1 (α1 ++ [p]) (upd H1 p (.dK kvs)) v x) (motive_2 := fun vs xs _ => RpA X.K F1 (α1 ++ [p]) (upd H1 p (.dK kvs)) vs xs)
            .non .bl .int .str (fun f h _ ih => .lst f (sw h (ne_of h hp1 (by intro z; cases z))) ih) (fun h _ ih => .tup (sw h (ne_of h hp1 (by intro z; cases z))) ih)
            (fun h _ ih => .frz (h.keep fun _ h => sw h (ne_of h hp1 (by intro z; cases z))) ih) (fun h => .obj (by rw [List.getElem?_append_left (List.getElem?_eq_some_iff.mp h).1]; exact h)) .nil (fun _ _ i1 i2 => .cons i1 i2) r
        · exact RpA.rec (motive_1 := fun v x _ => Rp X.K F1 (α1 ++ [p]) (upd H1 p (.dK kvs)) v x) (motive_2 := fun vs xs _ => RpA X.K F1 (α1 ++ [p]) (upd H1 p (.dK kvs)) vs xs)
            .non .bl .int .str (fun f h _ ih => .lst f (sw h (ne_of h hp1 (by intro z; cases z))) ih) (fun h _ ih => .tup (sw h (ne_of h hp1 (by intro z; cases z))) ih)
            (fun h _ ih => .frz (h.keep fun _ h => sw h (ne_of h hp1 (by intro z; cases z))) ih) (fun h => .obj (by rw [List.getElem?_append_left (List.getElem?_eq_some_iff.mp h).1]; exact h)) .nil (fun _ _ i1 i2 => .cons i1 i2) r
      exact two.1
    have hsF : StR X.K F1 (α1 ++ [p]) (upd H1 p (.dK kvs)) (S1 ++ [o]) := by
      refine ⟨by rw [List.length_append, List.length_append, hs1.len]; rfl, ?_, fun a f q => ?_, fun n a q => ?_⟩
      · rw [List.nodup_append]
        exact ⟨hs1.nd, by simp, fun a ma b mb z => by
          rw [List.mem_singleton.mp mb] at z
          exact np1 (by rw [← z]; exact ma)⟩
      · by_cases z : a = p
        · rw [z, upd_same] at q; cases q
        · rw [upd_ne z] at q; exact hs1.fa a f q
      · by_cases hn : n < α1.length
        · rw [List.getElem?_append_left hn] at q
          obtain ⟨kv, u, q1, q2, q3⟩ := hs1.ob n a q
          have na : a ≠ p := fun z => np1 (by rw [← z]; exact List.mem_of_getElem? q)
          exact ⟨kv, u, by rw [List.getElem?_append_left (by rw [← hs1.len]; exact hn)]; exact q1, sw q2 na, pairedImp q3 fun _ _ z => ⟨z.1, rpUp _ _ z.2⟩⟩
        · rw [List.getElem?_append_right (by omega)] at q
          have en : n - α1.length = 0 := by
            cases z : n - α1.length with
            | zero => rfl
            | succ k => rw [z] at q; simp at q
          rw [en] at q
          simp at q
          subst q
          have e2 : n = S1.length := by rw [← hs1.len]; omega
          exact ⟨kvs, o, by rw [e2, List.getElem?_append_right (Nat.le_refl _), Nat.sub_self]; rfl, upd_same, pairedImp ro fun _ _ z => ⟨z.1, rpUp _ _ z.2⟩⟩
    refine k (.ref p) F1 (α1 ++ [p]) _ stF hsF (.obj ?_)
    rw [← hs1.len, List.getElem?_append_right (Nat.le_refl _), Nat.sub_self]; rfl
  · cases h3
end
end J

set_option maxHeartbeats 4000000
namespace J
open PySem PySem.Spec PyProof.Rows L2

section
variable {K : PySem.W.Frag} {F0 F F' F2 : Addr → Prop} {α0 α α' α2 : List Addr} {H0 H Hs H' H2 : Hp} {S S' S2 : Store} {v : V} {d : D} {ρ ρ' : Env} {ds : List D} {σ σ' : L2.St} {D' : Ends} {o : Out}
variable {X : Cx} {a b c e tg : Expr} {es : List Expr} {f g h : EX} {r l : EL} {pos p : Pos} {x : Str} {st : Stmt}
/-- y = [.. for ..] on one line -/
theorem j_setC {i : Nat} {own : List Nat} {gt : TG} {bd : BD} {cond : ET} {elt : EX} (sg : SpG X.K gt bd own) (raw : PS X st (tAsg (tLc (iW X.K l) gt (tT X.K cond) (tV X.K elt) own) (gName i))) : PS X st (tAsg (tL X.K (lComp own l bd cond elt)) (gName i)) :=
  ps_weak raw fun D σ H q => comp_imp sg q
/-- a new list is a value that stays -/
theorem lv_imp {σ : L2.St} {H : Hp} {Q : VK} : tV K (eL r) σ H Q → tL K r σ H Q := fun ⟨F, α, ρ, S, d, S', h1, h2, h3, k⟩ => by
  unfold eL at h3
  cases e : r ρ S with
  | none => rw [e] at h3; cases h3
  | some p =>
    obtain ⟨xs, S1⟩ := p
    rw [e] at h3
    cases h3
    exact ⟨F, α, ρ, S, xs, _, h1, h2, e, fun a vs F' α' H' st hs hn nf hl ra => k _ (fun b => F' b ∨ b = a) α' H' (st.keepF hn) (hs.fm (fun _ => .inl) fun b q => q.elim .inl fun e => .inr (by rw [e, hl]; exact fun z => by cases z)) (.lst (.inr rfl) hl (ra.fm fun _ => .inl))⟩
theorem j_setV {i : Nat} {gt : TG} (raw : PS X st (tAsg (tL X.K r) gt)) : PS X st (tAsg (tV X.K (eL r)) gt) := ps_weak raw fun D σ H q => lv_imp q

/-! ### comparisons as tests, chains -/
theorem op_imp {q : R2} {gg : D → D → Option D} (sp : Sp2 K q gg) {σ : L2.St} {H : Hp} {Q : VK} : tV K (e2 gg f h) σ H Q → tOp q (tW K f) (tW K h) σ H Q := fun ⟨F, α, ρ, S, d, S', h1, h2, h3, k⟩ => by
  obtain ⟨x, S1, y, a1, a2, a3⟩ := e2_some h3
  exact ⟨F, α, ρ, S, x, S1, h1, h2, a1, fun v F1 α1 H1 st1 hs1 rv => ⟨F1, α1, ρ, S1, y, _, hs1, h2.mono h1 st1, a2, fun v2 F2 α2 H2 st2 hs2 rv2 =>
    sp F2 α2 H2 _ v v2 x y d Q hs2 (rv.mono hs1 st2) rv2 a3 fun v3 F3 α3 H3 st3 hs3 rv3 => k v3 F3 α3 H3 ((st1.trans st2).trans st3) hs3 rv3⟩⟩
theorem j_cmpT {q : R2} {gg : D → D → Option D} (sp : Sp2 X.K q gg) (raw : PT X e (tTest (tOp q (tW X.K f) (tW X.K h)))) : PT X e (tT X.K (tOf (e2 gg f h))) :=
  j_test (pt_weak raw fun σ H Q q => op_imp sp q)
def eCh (g1 g2 : D → D → Option D) (f h t : EX) : EX := fun ρ S => match f ρ S with
  | some (x, S1) => (match h ρ S1 with
    | some (y, S2) => (match g1 x y with
      | some (.bl true) => (match t ρ S2 with | some (z, S3) => (match g2 y z with | some w => some (w, S3) | none => none) | none => none)
      | some (.bl false) => some (.bl false, S2)
      | _ => none)
    | none => none)
  | none => none
theorem ch_imp {q1 q2 : R2} {g1 g2 : D → D → Option D} {t : EX} (s1 : Sp2 K q1 g1) (s2 : Sp2 K q2 g2) {σ : L2.St} {H : Hp} {Q : VK} : tV K (eCh g1 g2 f h t) σ H Q → tChain q1 q2 (tW K f) (tW K h) (tW K t) σ H Q := fun ⟨F, α, ρ, S, d, S', h1, h2, h3, k⟩ => by
  unfold eCh at h3
  split at h3
  · rename_i x S1 e1
    split at h3
    · rename_i y S2 e2
      refine ⟨F, α, ρ, S, x, S1, h1, h2, e1, fun v F1 α1 H1 st1 hs1 rv => ⟨F1, α1, ρ, S1, y, S2, hs1, h2.mono h1 st1, e2, fun v2 F2 α2 H2 st2 hs2 rv2 => ?_⟩⟩
      split at h3
      · rename_i e3
        refine s1 F2 α2 H2 _ v v2 x y _ _ hs2 (rv.mono hs1 st2) rv2 e3 fun v3 F3 α3 H3 st3 hs3 rv3 => ?_
        cases rv3
        refine ⟨true, rfl, iteT ?_⟩
        split at h3
        · rename_i z S3 e4
          split at h3
          · rename_i w e5
            cases h3
            refine ⟨F3, α3, ρ, S2, z, _, hs3, ((h2.mono h1 st1).mono hs1 st2).mono hs2 st3, e4, fun v4 F4 α4 H4 st4 hs4 rv4 => ?_⟩
            exact s2 F4 α4 H4 _ v2 v4 y z _ Q hs4 ((rv2.mono hs2 st3).mono hs3 st4) rv4 e5 fun v5 F5 α5 H5 st5 hs5 rv5 => k v5 F5 α5 H5 ((((st1.trans st2).trans st3).trans st4).trans st5) hs5 rv5
          · cases h3
        · cases h3
      · rename_i e3
        cases h3
        refine s1 F2 α2 H2 _ v v2 x y _ _ hs2 (rv.mono hs1 st2) rv2 e3 fun v3 F3 α3 H3 st3 hs3 rv3 => ?_
        cases rv3
        exact ⟨false, rfl, iteF (k _ F3 α3 H3 ((st1.trans st2).trans st3) hs3 (.bl _))⟩
      · cases h3
    · cases h3
  · cases h3
theorem j_ch {q1 q2 : R2} {g1 g2 : D → D → Option D} {t : EX} (s1 : Sp2 X.K q1 g1) (s2 : Sp2 X.K q2 g2) (raw : PE X e (tChain q1 q2 (tW X.K f) (tW X.K h) (tW X.K t))) : PE X e (tV X.K (eCh g1 g2 f h t)) := pe_weak raw fun σ H Q q => ch_imp s1 s2 q
theorem j_chT {q1 q2 : R2} {g1 g2 : D → D → Option D} {t : EX} (s1 : Sp2 X.K q1 g1) (s2 : Sp2 X.K q2 g2) (raw : PT X e (tTest (tChain q1 q2 (tW X.K f) (tW X.K h) (tW X.K t)))) : PT X e (tT X.K (tOf (eCh g1 g2 f h t))) := j_test (pt_weak raw fun σ H Q q => ch_imp s1 s2 q)

/-! ### any value as a test -/
def gTru : D → Option Bool
  | .non => some false
  | .bl b => some b
  | .int i => some (i != 0)
  | .str z => if z.length ≤ sizeLine then some ((z.length : Int) != 0) else none
  | .lst xs => some (!xs.isEmpty)
  | .frz xs => some (!xs.isEmpty)
  | .tup xs => some (!xs.isEmpty)
  | .obj _ => none
def tTru (f : EX) : ET := fun ρ S => match f ρ S with | some (x, S1) => (match gTru x with | some b => some (b, S1) | none => none) | none => none
theorem RpA.empty {vs : List V} {ds : List D} (r : RpA K F α H vs ds) : vs.isEmpty = ds.isEmpty := by cases r <;> rfl
theorem j_tru (q : PE X a (tW X.K f)) (he : ∀ whole, isTrue a X.env whole = (do let v ← whole; standAt a.pos; holding [v] (truthy v)) := by intro _; rfl) : PT X a (tT X.K (tTru f)) := pt_weak (pt_truth q he) fun σ H Q ⟨F, α, ρ, S, d, S', h1, h2, h3, k⟩ => by
  unfold tTru at h3
  split at h3
  · split at h3
    · rename_i x S1 e1 _ b e2
      cases h3
      refine ⟨F, α, ρ, S, x, _, h1, h2, e1, fun v F1 α1 H1 st1 hs1 rv => ⟨d, ?_, k F1 α1 H1 st1 hs1⟩⟩
      unfold gTru at e2
      split at e2
      · cases e2; cases rv.non; exact rfl
      · cases e2; cases rv.bl; exact rfl
      · cases e2; cases rv.int; exact rfl
      · split at e2
        · cases e2; cases rv.str; exact ⟨by assumption, rfl⟩
        · cases e2
      · cases e2
        obtain ⟨b, vs, rfl, hb, r⟩ := rv.seqL
        exact .inl ⟨vs, hb, by rw [r.empty]⟩
      · cases e2
        obtain ⟨b, vs, rfl, hb, r⟩ := rv.seqF
        exact .inl ⟨vs, hb, by rw [r.empty]⟩
      · cases e2
        obtain ⟨b, vs, rfl, hb, r⟩ := rv.seqT
        exact .inr (.inl ⟨vs, hb, by rw [r.empty]⟩)
      · cases e2
    · cases h3
  · cases h3

/-! ### the text's own names -/
theorem j_gS {z : Str} (hg : Gl X x) (hm : ∃ t, X.mg x = some (.str z t)) (hd : (x == ("__debug__" : Str)) = false := by decide) : PE X (.Name x pos) (tV X.K (eC (.str z))) := by
  obtain ⟨t, hm⟩ := hm
  exact j_c (pe_glob (v := .str z) hg hm ⟨t, rfl⟩ hd) (.str z)
theorem j_gI {z : Int} (hg : Gl X x) (hm : ∃ t, X.mg x = some (.int z t)) (hd : (x == ("__debug__" : Str)) = false := by decide) : PE X (.Name x pos) (tV X.K (eC (.int z))) := by
  obtain ⟨t, hm⟩ := hm
  exact j_c (pe_glob (v := .int z) hg hm ⟨t, rfl⟩ hd) (.int z)
/-- a def of the text as the top leaves it -/
def Here (K : PySem.W.Frag) (mg : Str → Option Value) (x : Str) (qual : Str) (st : Stmt) (ps : List Str) : Prop := ∃ f fd, Fun K x qual st f fd ∧ mg x = some (.ref f) ∧ Binds K fd ps []
/-- .. and what it does -/
def Does (P : Program) (w : World) (K : PySem.W.Frag) (mg : Str → Option Value) (base : Heap) (k : Nat) (x : Str) (ps : List Str) (G : FN) : Prop :=
  ∃ f fd, FnOk P w K mg base CX0 k f fd ps (spF K G ps.length) ∧ mg x = some (.ref f) ∧ PySem.W.keepIn K (.ref f) = true ∧ Binds K fd ps []
theorem j_callD {G : FN} {k n : Nat} {ps : List Str} (dd : Does X.prog X.w X.K X.mg X.base k x ps G) (hr : Room n X.A) (hkn : k ≤ n) (hg : Gl X x) (q : PA X (a :: es) (tVs X.K r)) (hl : ∀ ρ S ds S', r ρ S = some (ds, S') → ds.length = (a :: es).length) (hps : ps.length = (a :: es).length)
    (hdb : (x == ("__debug__" : Str)) = false := by decide) (he : starEach (a :: es) X.env = (false, eval a X.env) :: starEach es X.env := by rfl) (hpl : (backTo pos (starEach es X.env)).any (·.1) = false := by rfl) :
    PE X (.Call (.Name x p) (a :: es) [] pos) (tV X.K (eCall G r)) := by
  obtain ⟨f, fd, F, hm, hk, hb⟩ := dd
  rw [hps] at F
  exact j_call (pe_call (dvs := []) (ds := []) (E := E0) F (hr.mono hkn) hg hm hk hb .nil (fun pins σ H s e s' I z => False.elim z) q hdb he hpl) hl
theorem j_call0 {G : FN} {k n : Nat} (dd : Does X.prog X.w X.K X.mg X.base k x [] G) (hr : Room n X.A) (hkn : k ≤ n) (hg : Gl X x) (hdb : (x == ("__debug__" : Str)) = false := by decide) :
    PE X (.Call (.Name x p) [] [] pos) (tV X.K (eCall G aN)) := by
  obtain ⟨f, fd, F, hm, hk, hb⟩ := dd
  refine pe_weak (pe_call0 (dvs := []) (ds := []) (E := E0) F (hr.mono hkn) hg hm hk hb .nil (fun pins σ H s e s' I z => False.elim z) hdb) fun σ H Q ⟨F, α, ρ, S, d, S', h1, h2, h3, k⟩ => ?_
  exact ⟨rfl, F, α, S, [], d, S', h1, .nil, h3, k⟩
theorem hu65 {A : Around} {k : Nat} (hr : Room k A) : A.units + 65 < cLine := by have := hr.un; omega
theorem Room.tame {A : Around} {k : Nat} (hr : Room k A) : A.units + 64 < cLine := hr.units
theorem does_of {P : Program} {w : World} {mg : Str → Option Value} {base : Heap} {qual : Str} {st : Stmt} {N ps : List Str} {k : Nat} {g : GS} (hh : Here K mg x qual st ps) (Sc : FnScope N ps (defScope st))
    (hb : ∀ (fa : Addr) (cdv : Value) (A : Around) (outer : List PySem.Env) (s : Shared) (H : Hp) (E : XK) (F0 : Addr → Prop) (α0 : List Addr), Room k (A.deeper (envOfC qual (defScope st) s.heap.objs.size fa cdv)) →
      PSs (cxOf CX0 P w K mg base N qual (defScope st) fa cdv A outer s H E).nox (defBody st) (tS K F0 α0 H g)) : Does P w K mg base (k + 1) x ps (runDef N.length g) := by
  obtain ⟨f, fd, Fn, hm, hbi⟩ := hh
  exact ⟨f, fd, def_ok Fn Sc (hb f), hm, Fn.kp, hbi⟩
end
end J
namespace J
open PySem PySem.Spec PyProof.Rows L2
section
variable {f1 f2 f3 f4 : EX} {ρ : Env} {S S' : Store} {ds : List D}
theorem len_0 (z : aN ρ S = some (ds, S')) : ds.length = 0 := by cases z; rfl
theorem len_s {r : EL} {n : Nat} (h : ∀ S ds S', r ρ S = some (ds, S') → ds.length = n) (z : aC f1 r ρ S = some (ds, S')) : ds.length = n + 1 := by
  obtain ⟨x, S1, xs, _, a2, rfl⟩ := aC_some z
  rw [List.length_cons, h _ _ _ a2]
theorem len_1 (z : aC f1 aN ρ S = some (ds, S')) : ds.length = 1 := len_s (fun _ _ _ => len_0) z
theorem len_2 (z : aC f1 (aC f2 aN) ρ S = some (ds, S')) : ds.length = 2 := len_s (fun _ _ _ => len_1) z
theorem len_3 (z : aC f1 (aC f2 (aC f3 aN)) ρ S = some (ds, S')) : ds.length = 3 := len_s (fun _ _ _ => len_2) z
theorem len_4 (z : aC f1 (aC f2 (aC f3 (aC f4 aN))) ρ S = some (ds, S')) : ds.length = 4 := len_s (fun _ _ _ => len_3) z
end
end J

set_option maxHeartbeats 4000000
namespace J
open PySem PySem.Spec PyProof.Rows L2

/-! ## 7. sorted(set(texts)) -/
def txt : Value → Str
  | .str x _ => x
  | _ => Str.empty
/-- an entry of a set of texts -/
def TxE (w : World) (e : Int × Value) : Prop := (∃ tk, e.2 = .str (txt e.2) tk) ∧ e.1 = hashStr w (txt e.2)
def txts (es : Array (Int × Value)) : List Str := es.toList.map fun e => txt e.2
/-- a set of texts at a, its table fit to be walked; M its members as they lie -/
structure TxSet (w : World) (h : Heap) (a : Addr) (M : List Str) : Prop where
  ex : ∃ (o : Obj) (es : Array (Int × Value)) (ep : Nat) (t : SetTable), (h.get? a = some o ∧ o.ExactSet ∧ o.data = .set es ep t) ∧ (∀ e ∈ es.toList, TxE w e) ∧ txts es = M ∧
    (es.size < scanBound ∧ t.fits es.size = true) ∧ Ris t.place.toList ∧ (w.params.followText "set-order" = true ∨ t.led = true)
  nd : M.Nodup
section
variable {P : Program} {w : World} {A : Around} {E : Value → Shared → Prop} {s : Shared} {a : Addr} {M : List Str} {h h' : Heap}
theorem TxSet.keep (R : TxSet w h a M) (k : ∀ o, h.get? a = some o → h'.get? a = some o) : TxSet w h' a M :=
  let ⟨⟨o, es, ep, t, ⟨h1, h2⟩, r⟩, n⟩ := R
  ⟨⟨o, es, ep, t, ⟨k o h1, h2⟩, r⟩, n⟩
theorem TxE.is {e : Int × Value} (g : TxE w e) (x : Str) : (PySem.strKind P w).is x e.2 = true ↔ txt e.2 = x := by
  obtain ⟨⟨tk, q⟩, _⟩ := g
  constructor
  · intro z
    rw [q] at z
    have z' : Value.isStrOf x (.str (txt e.2) tk) = true := z
    simpa [Value.isStrOf] using z'
  · intro z
    rw [q, ← z]
    have := strKind_is P w (txt e.2) tk
    exact this
theorem tx_elems {l : List (Int × Value)} (g : ∀ e ∈ l, TxE w e) : ElemsOf (PySem.strKind P w) l := fun e m => by
  have q := g e m
  refine ⟨⟨txt e.2, (q.is (P := P) (txt e.2)).2 rfl, q.2⟩, ?_⟩
  obtain ⟨⟨tk, z⟩, _⟩ := q
  rw [z]; rfl
theorem tx_put {o : Obj} {es es' : Array (Int × Value)} {ep : Nat} {t t' : SetTable} (ho : h.get? a = some o) (hd : o.data = .set es ep t) : (h.update a (Obj.putSet es' t')).get? a = some { o with data := .set es' (ep + 1) t' } := by
  rw [← putSet_of es' t' hd]
  exact Heap.get?_update_self (Obj.putSet es' t') ho (by rw [putSet_of es' t' hd]; rfl)
/-- the end of an addition: the new entries are stored, the table perhaps laid anew -/
theorem tx_tail {gv : Bool → Sem Unit} (hg : ∀ (b : Bool) (s₁ : Shared) (Q' : Unit → Shared → Prop), Q' () s₁ → wpAny (model P w) A (gv b) Q' E s₁) {o : Obj} {es es1 : Array (Int × Value)} {ep : Nat} {t t1 : SetTable}
    (ho : s.heap.get? a = some o ∧ o.ExactSet ∧ o.data = .set es ep t) (g1 : ∀ e ∈ es1.toList, TxE w e) (n1 : (txts es1).Nodup) (b1 : es1.size < scanBound ∧ t1.fits es1.size = true) (r1 : Ris t1.place.toList)
    (l1 : w.params.followText "set-order" = true ∨ t1.led = true) {dm : Bool} {R : Option Bool → Shared → Prop} (hR : ∀ h' M', Heap.SameBut a s.heap h' → TxSet w h' a M' → M'.Perm (txts es1) → R (some true) { s with heap := h' }) :
    wpAny (model P w) A (do storeSet a es1 t1
                            if (!dm && t1.tooFull) = true then do gv (relayAll t1 es1 (SetTable.grown es1.size)).2.2
                                                                  storeSet a (relayAll t1 es1 (SetTable.grown es1.size)).1 (relayAll t1 es1 (SetTable.grown es1.size)).2.1
                                                                  pure (some true)
                            else pure (some true)) R E s := by
  obtain ⟨h1, h2, h3⟩ := ho
  refine wpAny_bind (wpAny_storeSet_of h1 h3 ?_ (fits_of_scanBound b1.1))
  have k1 := tx_put (es' := es1) (t' := t1) h1 h3
  have sb := Heap.SameBut.update s.heap a (Obj.putSet es1 t1)
  split
  · have p2 := relayAll_perm t1 es1 (SetTable.grown es1.size)
    have f2 := relayAll_fits t1 es1 (SetTable.grown es1.size)
    have r2 := relayAll_ris t1 es1 (SetTable.grown es1.size)
    have l2 := relayAll_led t1 es1 (SetTable.grown es1.size)
    generalize relayAll t1 es1 (SetTable.grown es1.size) = Z at p2 f2 r2 l2 ⊢
    obtain ⟨es2, t2, gave⟩ := Z
    simp only at p2 f2 r2 l2 ⊢
    have z2 : es2.size = es1.size := by rw [← Array.length_toList, p2.length_eq, Array.length_toList]
    have b2 : es2.size < scanBound := by rw [z2]; exact b1.1
    have pm : (txts es2).Perm (txts es1) := p2.map _
    refine wpAny_bind (hg _ _ _ (wpAny_bind (wpAny_storeSet_of k1 rfl (wpAny_pure (hR _ (txts es2) (sb.trans (Heap.SameBut.update _ a _)) ?_ pm)) (fits_of_scanBound b2))))
    exact ⟨⟨_, es2, _, t2, ⟨tx_put k1 rfl, h2, rfl⟩, fun e m => g1 e (p2.mem_iff.mp m), rfl, ⟨b2, f2⟩, r2, l1.imp id fun z => by rw [l2]; exact z⟩, pm.nodup_iff.mpr n1⟩
  · exact wpAny_pure (hR _ (txts es1) sb ⟨⟨_, es1, _, t1, ⟨k1, h2, rfl⟩, g1, rfl, b1, r1, l1⟩, n1⟩ (List.Perm.refl _))
theorem tx_add {x : Str} {tk : Tok} {Q : Bool → Shared → Prop} (R : TxSet w s.heap a M) (room : M.length + 1 < scanBound)
    (hQ : ∀ b h' M', Heap.SameBut a s.heap h' → TxSet w h' a M' → (∀ y, y ∈ M' ↔ y ∈ M ∨ y = x) → M'.length ≤ M.length + 1 → Q b { s with heap := h' }) :
    wpAny (model P w) A (setAddHashed a (.str x tk) ((PySem.strKind P w).hash x)) Q E s := by
  obtain ⟨⟨o, es, ep, t, ho, g, em, ⟨hb, hf⟩, hr, hl⟩, nd⟩ := R
  subst em
  have kx := strKind_is P w x tk
  have sx : (Value.str x tk).scannable = true := rfl
  have el : ElemsOf (PySem.strKind P w) es.toList := tx_elems g
  have len : (txts es).length = es.size := by unfold txts; rw [List.length_map, Array.length_toList]
  (unfold setAddHashed setAddHashedIn; refine wpAny_holding (wpAny_bind (wpAny_setState_of ho.1 ho.2.2 hf ?_)); simp only)
  (rw [byScan_of sx hb el]; simp only [↓reduceIte]; unfold setAddByScan)
  refine wpAny_bind (wpAny_bind (wpAny_rule (wpAny_bind (wpAny_setScan_of kx ho.1 ho.2.2 hf el ?_))))
  cases hfi : List.findIdx? (fun e => (PySem.strKind P w).is x e.2) es.toList with
  | some j =>
    simp only
    obtain ⟨hj, pj, _⟩ := List.findIdx?_eq_some_iff_getElem.mp hfi
    have mx : x ∈ txts es := List.mem_map.mpr ⟨es.toList[j], List.getElem_mem hj, ((g _ (List.getElem_mem hj)).is (P := P) x).1 pj⟩
    refine wpAny_pure (wpAny_pure (hQ _ s.heap (txts es) (Heap.SameBut.refl a s.heap) ⟨⟨o, es, ep, t, ho, g, rfl, ⟨hb, hf⟩, hr, hl⟩, nd⟩ (fun y => ⟨.inl, fun z => z.elim id fun e => by rw [e]; exact mx⟩) (Nat.le_succ _)))
  | none =>
    simp only
    have nx : x ∉ txts es := fun m => by
      obtain ⟨e, me, q⟩ := List.mem_map.mp m
      have c := List.findIdx?_eq_none_iff.mp hfi e me
      rw [((g e me).is (P := P) x).2 q] at c
      cases c
    have gw : ∀ (b : Bool) {s₁ : Shared} {Q' : Unit → Shared → Prop}, Q' () s₁ → wpAny (model P w) A (match b with | true => rule "set.scan.the-table-gave-way" | false => pure ()) Q' E s₁ := fun b s₁ Q' q => by
      cases b
      · exact wpAny_pure q
      · exact wpAny_rule q
    have p1 := layNew_perm t es ((PySem.strKind P w).hash x) (.str x tk)
    have f1 := layNew_fits t es ((PySem.strKind P w).hash x) (.str x tk)
    have r1 := layNew_ris t es ((PySem.strKind P w).hash x) (.str x tk) hr
    have l1 := layNew_led t es ((PySem.strKind P w).hash x) (.str x tk)
    generalize layNew t es ((PySem.strKind P w).hash x) (.str x tk) = Z at p1 f1 r1 l1 ⊢
    obtain ⟨es1, t1, dm, gave⟩ := Z
    simp only at p1 f1 r1 l1 ⊢
    rw [Array.toList_push] at p1
    have pc : es1.toList.Perm (((PySem.strKind P w).hash x, Value.str x tk) :: es.toList) := p1.trans (List.perm_append_singleton _ _)
    have pk : (txts es1).Perm (x :: txts es) := pc.map (fun e : Int × Value => txt e.2)
    have g1 : ∀ e ∈ es1.toList, TxE w e := fun e m => by
      rcases List.mem_cons.mp (pc.mem_iff.mp m) with z | z
      · rw [z]; exact ⟨⟨tk, rfl⟩, rfl⟩
      · exact g e z
    have n1 : (txts es1).Nodup := pk.nodup_iff.mpr (List.nodup_cons.mpr ⟨nx, nd⟩)
    have len1 : (txts es1).length = es1.size := by unfold txts; rw [List.length_map, Array.length_toList]
    have z1 : es1.size = (txts es).length + 1 := by rw [← len1, pk.length_eq, List.length_cons]
    have b1 : es1.size < scanBound := by rw [z1]; exact room
    have led1 : w.params.followText "set-order" = true ∨ t1.led = true := hl.imp id fun z => by rw [l1]; exact z
    have fin : ∀ h' M', Heap.SameBut a s.heap h' → TxSet w h' a M' → M'.Perm (txts es1) → Q true { s with heap := h' } := fun h' M' sb r pm =>
      hQ true h' M' sb r (fun y => by rw [pm.mem_iff, pk.mem_iff, List.mem_cons]; exact Or.comm) (by rw [pm.length_eq, pk.length_eq, List.length_cons]; exact Nat.le_refl _)
    have gv : ∀ (b : Bool) (s₁ : Shared) (Q' : Unit → Shared → Prop), Q' () s₁ → wpAny (model P w) A (match b with | true => rule "set.scan.the-table-gave-way" | false => pure ()) Q' E s₁ := fun b s₁ Q' q => gw b q
    refine wpAny_bind (gw _ ?_)
    split
    · refine wpAny_bind ?_
      rw [hashByValue_scannable 8 sx]
      refine wpAny_pure (tx_tail ?_ ho g1 n1 ⟨b1, ?_⟩ ?_ ?_ ?_)
      · intro b s₁ Q' q; cases b <;> first | exact wpAny_pure q | exact wpAny_rule q
      · first | (split <;> first | exact f1 | exact SetTable.fits_plain_off f1) | exact f1
      · first | (split <;> exact r1) | exact r1
      · first | (split <;> exact led1) | exact led1
      · intro h' M' sb r pm; exact wpAny_pure (fin h' M' sb r pm)
    · refine wpAny_bind (wpAny_pure ?_)
      simp only [↓reduceIte]
      refine tx_tail ?_ ho g1 n1 ⟨b1, f1⟩ r1 led1 ?_
      · intro b s₁ Q' q; cases b <;> first | exact wpAny_pure q | exact wpAny_rule q
      · intro h' M' sb r pm; exact wpAny_pure (fin h' M' sb r pm)

/-- the texts of a walk go into the set at T, one after another -/
theorem tx_loop {Q0 : Result → Shared → Prop} {it : Addr} {fp wr : List Addr} {Gn : Array GenState → Array GenState → Prop} {n : Nat} {Pv : Nat → Value → Prop} {St : Nat → Shared → Prop} (W : WalksS P w A.in1 it fp wr Gn n Pv St)
    (T : Addr) (nT : T ∉ fp) (xs : List Str) (hn : n = xs.length) (hb : xs.length + 1 < scanBound) (val : ∀ i v, Pv i v → ∃ x t, xs[i]? = some x ∧ v = Value.str x t) : ∀ (k i : Nat) (s : Shared), n - i = k → i ≤ n → St i s →
      (∃ M, M.length ≤ i ∧ TxSet w s.heap T M ∧ ∀ y, y ∈ M ↔ y ∈ xs.take i) → (∀ s' M, Moved (T :: wr) Gn s s' → TxSet w s'.heap T M → (∀ y, y ∈ M ↔ y ∈ xs) → M.length ≤ n → Q0 (.ok (.ret .none)) s') →
      codeAny (model P w) A (.builtin "set.update.loop" ⟨[.ref T, .ref it], []⟩) Q0 s := by
  have nw : T ∉ wr := fun m => nT (W.sub _ m)
  have sub : ∀ b ∈ wr, b ∈ T :: wr := fun b m => List.mem_cons_of_mem _ m
  intro k
  induction k with
  | zero =>
    intro i s hk hi hst ⟨M, hM, hT, mem⟩ fin
    have ei : i = n := by omega
    subst ei
    refine codeAny_builtin PyProof.Rows.F.entry_set_update_loop ?_
    rw [Around.under_plainId PyProof.Rows.F.plain_set_update_loop _]
    show wpAny _ A.in1 (pyNext (.ref it) >>= _) _ _ s
    refine wpAny_bind (W.done s _ _ hst fun s' mv => ?_)
    show wpAny _ A.in1 (ret Value.none) _ _ s'
    rw [List.take_of_length_le (by omega)] at mem
    exact wpAny_pure (fin s' M (mv.mono sub) (hT.keep fun o e => mv.heap T o nw e) mem hM)
  | succ k ih =>
    intro i s hk hi hst ⟨M, hM, hT, mem⟩ fin
    have lt : i < n := by omega
    refine codeAny_builtin PyProof.Rows.F.entry_set_update_loop ?_
    rw [Around.under_plainId PyProof.Rows.F.plain_set_update_loop _]
    show wpAny _ A.in1 (pyNext (.ref it) >>= _) _ _ s
    refine wpAny_bind (W.item i s _ _ lt hst fun v s' hp hst' mv => ?_)
    obtain ⟨x, t, hx, rfl⟩ := val i v hp
    have hT' : TxSet w s'.heap T M := hT.keep fun o e => mv.heap T o nw e
    show wpAny _ A.in1 (holding [Value.str x t] (setAdd T (.str x t)) >>= _) _ _ s'
    (refine wpAny_bind (wpAny_holding ?_); unfold setAdd; refine wpAny_holding (wpAny_bind ((PySem.strKind P w).pyHash (k := x) (strKind_is _ _ _ _) ?_)))
    refine tx_add (s := { s' with toks := s'.toks + 1 }) hT' (by omega) fun b h' M' sb hT2 mem2 len2 => ?_
    refine wpAny_pure ⟨plainId_quiet PyProof.Rows.F.plain_set_update_loop _, ih (i + 1) _ (by omega) lt (W.frame _ s' _ _ hst' (Nat.le_succ _) fun b hb o e => ?_) ⟨M', by omega, hT2, fun y => ?_⟩ fun s'' M2 mv2 hT3 mem3 len3 => ?_⟩
    · rw [sb.2 b (fun z : b = T => nT (by rw [← z]; exact hb))]; exact e
    · rw [mem2 y, mem y, List.take_add_one, hx, List.mem_append]
      simp
    · refine fin s'' M2 (Moved.trans W.gtrans ((mv.mono sub).then_heap (Nat.le_succ _) fun b o hb e => ?_) mv2) hT3 mem3 len3
      rw [sb.2 b (fun z : b = T => hb (by rw [z]; exact List.mem_cons_self))]; exact e
end
end J

set_option maxHeartbeats 4000000
namespace J
open PySem PySem.Spec PyProof.Rows L2
section
variable {P : Program} {w : World} {A : Around} {E : Value → Shared → Prop} {s : Shared} {a : Addr} {M : List Str} {h h' : Heap}
abbrev newSet (w : World) : Obj := { cls := .type "set", dict := none, data := .set #[] 0 (.fresh 0 0 (!w.params.followText "set-order")) }
theorem tx_new (ho : h.get? a = some (newSet w)) : TxSet w h a [] :=
  ⟨⟨_, #[], 0, _, ⟨ho, ⟨rfl, rfl, rfl⟩, rfl⟩, (fun e m => by simp at m), rfl, ⟨by decide, rfl⟩, List.Pairwise.nil, by
    show _ ∨ (!w.params.followText "set-order") = true
    cases w.params.followText "set-order"
    · exact .inr rfl
    · exact .inl rfl⟩, List.nodup_nil⟩
set_option maxHeartbeats 8000000 in
/-- set(a list of texts) -/
theorem tx_call {l : Addr} {its : Array Value} (xs : List Str) {Q : Value → Shared → Prop} (hh : A.handled = none) (hl : s.heap.IsList l its) (hit : ∀ (i : Nat) (v : Value), its[i]? = some v → ∃ x t, xs[i]? = some x ∧ v = Value.str x t) (hz : its.size = xs.length)
    (hb : xs.length + 1 < scanBound) (k : ∀ (h' : Heap) (tk : Nat) (M : List Str), TxSet w h' s.heap.objs.size M → (∀ y, y ∈ M ↔ y ∈ xs) → M.length ≤ xs.length → (∀ b o, s.heap.get? b = some o → h'.get? b = some o) →
      Q (.ref s.heap.objs.size) { s with heap := h', toks := tk }) : wpAny (model P w) A (call (.type "set") [.ref l]) Q E s := by
  obtain ⟨c, tl, hmro⟩ := PySem.F.called_set.mro
  have made := PySem.F.called_set.made
  have sub := PySem.F.called_set.sub
  refine wpAny_call (codeAny_of_tree ?_)
  show wpAny _ _ (callAny (.type "set") _) _ _ _
  refine wpAny_pure ⟨Code.quiet_builtin _ (by decide +kernel), codeAny_builtin PySem.F.entry_type_call ?_⟩
  rw [Around.under_plain (weight_type_call_type "set" [.ref l] []) rfl]
  have c1 := PySem.F.called_set.notType
  have c2 := PySem.F.called_set.canCreate
  have c3 := PySem.F.typeCall_set_1 (.ref l)
  repeat (any_goals (first | assumption | wp_step))
  refine codeAny_mono (code_set_led1 (.ref l) (E := E) (Q₁ := fun ob s₁ => ob = .ref s.heap.objs.size ∧ s₁ = { s with heap := s.heap.push (newSet w) }) ⟨rfl, rfl⟩) fun r s₁ hr => ?_
  cases r with
  | error e => exact hr
  | ok fl =>
    cases fl with
    | ret ob =>
      obtain ⟨rfl, rfl⟩ := hr
      have hS : (s.heap.push (newSet w)).get? s.heap.objs.size = some (newSet w) := Heap.get?_push_size _ rfl
      have hT : Shared.TypeIs { s with heap := s.heap.push (newSet w) } (.ref s.heap.objs.size) "set" := ⟨_, hS, rfl⟩
      have i1 := PySem.F.called_set.init.lookup
      have i2 := PySem.F.called_set.init.bind (.ref s.heap.objs.size)
      repeat (any_goals (first | assumption | wp_step))
      refine codeAny_mono (codeAny_call_builtin (R := wants (fun r s₂ => r = .none ∧ ∃ h' tk M, s₂ = { s with heap := h', toks := tk } ∧ TxSet w h' s.heap.objs.size M ∧ (∀ y, y ∈ M ↔ y ∈ xs) ∧ M.length ≤ xs.length ∧ (∀ b o, s.heap.get? b = some o → h'.get? b = some o)) E)
        PySem.F.called_set.init.plain PySem.F.entry_set_init (check_set_init_1 hT ?_)) fun r₂ s₂ hr₂ => ?_
      · obtain ⟨ol, hol, hcl, nl, hdl⟩ := hl
        obtain ⟨ocls, odict, odata, osl⟩ := ol
        simp only at hcl hdl
        subst hcl; subst hdl
        have hol' : (s.heap.push (newSet w)).get? l = some { cls := .type "list", dict := odict, data := .seq its nl, slots := osl } := Heap.get?_push_of_some _ hol
        have s1 := PySem.F.sub_list_set
        have s2 := PySem.F.sub_list_frozenset
        have s3 : (Value.type "list" == Value.type "dict") = false := by decide
        have hl1 : (s.heap.push (newSet w)).IsList l its := ⟨_, hol', rfl, nl, rfl⟩
        unfold Builtin.«set.__init__» noKeywords Builtin.Frozenset.updateFrom
        generalize hPI : pyIter = PI
        wp_walk
        subst hPI
        refine wpAny_pyIter_list hl1 (wpAny_bind (wpAny_runValue ?_))
        have lS : l < s.heap.objs.size := Heap.lt_size hol
        have h3 : A.in1.in1.in1.handled = none := by simp [hh]
        have ne1 : l ≠ (s.heap.push (newSet w)).objs.size := by
          rw [Heap.size_push]; exact Nat.ne_of_lt (Nat.lt_succ_of_lt lS)
        have nf : s.heap.objs.size ∉ [(s.heap.push (newSet w)).objs.size, l] := by
          rw [Heap.size_push]; simp only [List.mem_cons, List.mem_singleton, List.not_mem_nil, or_false, not_or]
          exact ⟨Nat.ne_of_lt (Nat.lt_succ_self _), Nat.ne_of_gt lS⟩
        refine tx_loop ((Walks.list h3 _ l ne1 its).toS) s.heap.objs.size nf xs hz hb hit (its.size - 0) 0 _ (by omega) (Nat.zero_le _) ⟨⟨_, Heap.get?_push_size _ rfl, rfl, rfl⟩, (hl1.push _)⟩
          ⟨[], Nat.le_refl 0, tx_new (Heap.get?_push_of_some _ hS), fun y => by simp⟩ fun s' M mv hS' mem len => ?_
        obtain ⟨h', g2, d', tk', os'⟩ := s'
        have e1 : g2 = s.gens := mv.gens
        have e2 : d' = s.drawn := mv.drawn
        have e3 : os' = s.os := mv.os
        subst e1; subst e2; subst e3
        show wpAny _ _ _ _ _ _
        refine wpAny_pure ?_
        show wpAny _ _ (ret Value.none) _ _ _
        refine wpAny_pure ⟨rfl, h', tk', M, rfl, hS', mem, by rw [← hz]; exact len, fun b o e => ?_⟩
        have b0 : b < s.heap.objs.size := Heap.lt_size e
        have b2 : b ≠ (s.heap.push (newSet w)).objs.size := by
          rw [Heap.size_push]; exact Nat.ne_of_lt (Nat.lt_succ_of_lt b0)
        exact mv.heap b o (by simp only [List.mem_cons, List.mem_singleton, List.not_mem_nil, or_false, not_or]; exact ⟨Nat.ne_of_lt b0, b2⟩) (Heap.get?_push_of_some _ (Heap.get?_push_of_some _ e))
      · cases r₂ with
        | error e => exact hr₂
        | ok fl₂ =>
          cases fl₂ with
          | ret r =>
            obtain ⟨rfl, h', tk, M, rfl, hS', mem, len, hk'⟩ := hr₂
            repeat (any_goals (first | assumption | wp_step))
            exact k _ _ _ hS' mem len hk'
          | _ => exact hr₂.elim
    | _ => exact hr.elim
end
end J

set_option maxHeartbeats 4000000
namespace J
open PySem PySem.Spec PyProof.Rows L2

/-! ### the one order of texts -/
def sle (x y : Str) : Bool := !decide (y.cps.toList < x.cps.toList)
theorem str_ext {x y : Str} (h : x.cps.toList = y.cps.toList) : x = y := by
  obtain ⟨⟨a⟩⟩ := x
  obtain ⟨⟨b⟩⟩ := y
  have e : a = b := h
  rw [e]
theorem sle_trans (x y z : Str) (h1 : sle x y = true) (h2 : sle y z = true) : sle x z = true := by
  unfold sle at *
  simp only [Bool.not_eq_true', decide_eq_false_iff_not] at *
  intro h3
  by_cases q : y.cps.toList < x.cps.toList
  · exact h1 q
  · by_cases q2 : z.cps.toList < y.cps.toList
    · exact h2 q2
    · have a1 : x.cps.toList ≤ y.cps.toList := List.not_lt.mp q
      have a2 : y.cps.toList ≤ z.cps.toList := List.not_lt.mp q2
      exact absurd h3 (List.not_lt.mpr (List.le_trans a1 a2))
theorem sle_total (x y : Str) : (sle x y || sle y x) = true := by
  unfold sle
  by_cases q : y.cps.toList < x.cps.toList
  · have q2 : ¬ x.cps.toList < y.cps.toList := fun z => List.lt_irrefl _ (List.lt_trans q z)
    rw [decide_eq_true q, decide_eq_false q2]; rfl
  · rw [decide_eq_false q]; rfl
theorem sle_anti {x y : Str} (h1 : sle x y = true) (h2 : sle y x = true) : x = y := by
  unfold sle at *
  simp only [Bool.not_eq_true', decide_eq_false_iff_not] at *
  exact str_ext (List.le_antisymm (List.not_lt.mp h1) (List.not_lt.mp h2))
theorem rising_pw : ∀ (l : List Str) (p : Str), risingS p l = true → (p :: l).Pairwise fun a b => sle a b = true
  | [], p, _ => by simp
  | x :: r, p, h => by
    have h' : (!ltCps x.cps.toList p.cps.toList && risingS x r) = true := h
    rw [Bool.and_eq_true, ltCps_eq] at h'
    have ih := rising_pw r x h'.2
    refine List.pairwise_cons.mpr ⟨fun y m => ?_, ih⟩
    rcases List.mem_cons.mp m with e | m
    · rw [e]; exact h'.1
    · exact sle_trans p x y h'.1 ((List.pairwise_cons.mp ih).1 y m)
theorem sorted_pw : ∀ {l : List Str}, sortedS l = true → l.Pairwise fun a b => sle a b = true
  | [], _ => List.Pairwise.nil
  | x :: r, h => rising_pw r x h
/-- the texts in order -/
def srt (xs : List Str) : List Str := xs.mergeSort sle
theorem srt_perm (xs : List Str) : (srt xs).Perm xs := List.mergeSort_perm xs sle
theorem srt_only {xs ys : List Str} (p : ys.Perm xs) (h : sortedS ys = true) : ys = srt xs :=
  List.Perm.eq_of_pairwise (le := fun a b => sle a b = true) (fun a b _ _ h1 h2 => sle_anti h1 h2) (sorted_pw h) (List.pairwise_mergeSort sle_trans sle_total xs) (p.trans (srt_perm xs).symm)
/-- each once -/
def nub : List Str → List Str
  | [] => []
  | x :: r => if x ∈ nub r then nub r else x :: nub r
theorem nub_mem : ∀ {xs : List Str} {y : Str}, y ∈ nub xs ↔ y ∈ xs
  | [], y => Iff.rfl
  | x :: r, y => by
    unfold nub
    have ih := nub_mem (xs := r) (y := y)
    split
    · rename_i h
      rw [ih, List.mem_cons]
      exact ⟨.inr, fun z => z.elim (fun e => by rw [e]; exact nub_mem.mp h) id⟩
    · rw [List.mem_cons, List.mem_cons, ih]
theorem nub_nodup : ∀ xs : List Str, (nub xs).Nodup
  | [] => List.nodup_nil
  | x :: r => by
    unfold nub
    split
    · exact nub_nodup r
    · rename_i h
      exact List.nodup_cons.mpr ⟨h, nub_nodup r⟩
theorem nub_only {xs M : List Str} (nd : M.Nodup) (h : ∀ y, y ∈ M ↔ y ∈ xs) : M.Perm (nub xs) := (List.perm_ext_iff_of_nodup nd (nub_nodup xs)).mpr fun y => (h y).trans nub_mem.symm

/-! ### sorted of a list of texts -/
section
variable {K : PySem.W.Frag} {F F' F2 : Addr → Prop} {α α' α2 : List Addr} {H H' H2 : Hp} {S S' : Store} {v : V} {d : D} {ρ : Env} {ds : List D}
variable {X : Cx} {a b c e : Expr} {es : List Expr} {f g h : EX} {r : EL} {pos p p2 q2 : Pos} {x : Str}
def gSortedS : List D → Option (List D)
  | [.lst xs] => match strs? xs with | some ys => if ys.length < 64 then some ((srt ys).map .str) else none | none => none
  | _ => none
theorem sp_sortedS : SpCL K (rSortedS K) gSortedS := by
  intro F α H S xs dxs d Q s rx e q
  unfold gSortedS at e
  split at e
  · split at e
    · split at e
      · rename_i ys ey hz
        cases e
        obtain ⟨v, rfl, r⟩ := rx.one
        obtain ⟨a, vs, rfl, ha, r1⟩ := r.seqL
        rw [strs_of r1 ey] at ha
        refine ⟨a, ys, rfl, ha, hz, fun zs p hp hs hn => ?_⟩
        rw [srt_only hp hs]
        exact PostL.lst q s (RpA.strs _) p hn
      · cases e
    · cases e
  · cases e

/-! ### .. of a set of texts -/
def TxO (w : World) (a : Addr) (M : List Str) : HO := .ext fun h => TxSet w h a M
def rSetTx (K : PySem.W.Frag) (w : World) : List V → Hp → VK → Prop := fun xs H Q => ∃ (l : Addr) (ys : List Str), xs = [V.ref l] ∧ SqL K H l (ys.map V.str) ∧ ys.length < 63 ∧
  ∀ p M, H p = none → M.Perm (nub ys) → Q (.ref p) (upd H p (TxO w p M))
def rSortTx (w : World) : List V → Hp → VK → Prop := fun xs H Q => ∃ (a : Addr) (M : List Str), xs = [V.ref a] ∧ H a = some (TxO w a M) ∧ M.length < 64 ∧
  ∀ ys p, ys.Perm M → sortedS ys = true → H p = none → Q (.ref p) (upd H p (.lst (ys.map V.str)))
theorem strsAre_at : ∀ {us : List Value} {xs : List Str}, PyProof.Rows.StrsAre us xs → ∀ (i : Nat) (v : Value), us[i]? = some v → ∃ x t, xs[i]? = some x ∧ v = Value.str x t
  | _, _, .nil, i, v, h => by simp at h
  | _, _, .cons y t r, 0, v, h => by simp at h; exact ⟨y, t, by simp, h.symm⟩
  | _, _, .cons y t r, i + 1, v, h => by
    obtain ⟨x, u, e1, e2⟩ := strsAre_at r i v (by simpa using h)
    exact ⟨x, u, by simpa using e1, e2⟩
theorem cr_setTx (hc : X.calm = true) : CallR X (.type "set") (rSetTx X.K X.w) := by
  intro pins s σ H xs us Q I r h
  obtain ⟨l, ys, rfl, hl, hz, q⟩ := h
  obtain ⟨its, rv, pl, _⟩ := I.list hl
  rw [Vals.ref1 r]
  have hs := rv.strs
  have hlen : its.toArray.size = ys.length := by rw [List.size_toArray, ← rv.length, List.length_map]
  refine tx_call (its := its.toArray) ys (I.ok.hd hc) pl.isList (fun i v e => strsAre_at hs i v (by simpa using e)) hlen (by unfold scanBound; omega) fun h' tk M R mem len k => ?_
  have new : ObjOk X.prog X.w (upd H s.heap.objs.size (TxO X.w s.heap.objs.size M)) h' s.heap.objs.size (TxO X.w s.heap.objs.size M) := by
    refine ⟨R, ?_, fun h1 h2 z kk => z.keep kk⟩
    obtain ⟨o, _, _, _, ⟨e, _⟩, _⟩ := R.ex
    exact ⟨o, e⟩
  exact ⟨.ref s.heap.objs.size, _, I.laid (t' := tk) k (Nat.le_refl _) new, rfl, q _ M (I.hok.fresh (Nat.le_refl _)) (nub_only R.nd mem)⟩
end
end J

set_option maxHeartbeats 4000000
namespace J
open PySem PySem.Spec PyProof.Rows L2
section
variable {K : PySem.W.Frag} {F F' F2 : Addr → Prop} {α α' α2 : List Addr} {H H' H2 : Hp} {S S' : Store} {v : V} {d : D} {ρ : Env} {ds : List D}
variable {X : Cx} {a b c e : Expr} {es : List Expr} {f g h : EX} {r : EL} {pos p p2 q2 : Pos} {x : Str}
theorem laidD {pins : List (Addr × Obj)} {σ : List (Option V)} {s : Shared} {h' : Heap} {a : Addr} {o : HO} {t' : Nat} {d' : Drawn} (I : Inv X pins σ H s) (k : ∀ b u, s.heap.get? b = some u → h'.get? b = some u) (hp : s.heap.objs.size ≤ a) (new : ObjOk X.prog X.w (upd H a o) h' a o) :
    Inv X pins σ (upd H a o) { s with heap := h', drawn := d', toks := t' } := by
  have J := I.laid (t' := t') k hp new
  have n : H a = none := I.hok.fresh hp
  exact I.step (g' := s.gens) (d' := d') (t' := t') (ch := []) (fun _ z => nomatch z)
    (fun b o _ _ _ e _ => k b o e) (fun b o _ _ _ e _ => ⟨o.slots, k b o e⟩) (fun b o _ e n => by rw [upd_ne (Nat.ne_of_lt (Nat.lt_of_lt_of_le (Heap.lt_size e) hp))]; exact n)
    (fun b o _ e => ⟨o, k b o e⟩) (fun b xs e => by rw [upd_ne (ne_of_none e n)]; exact e) (fun b o u e => by rw [upd_ne (ne_of_none e n)]; exact e)
    (fun b ps e => ⟨#[], by rw [upd_ne (ne_of_none e n), e]; simp⟩) (fun m hm => by
      obtain ⟨o', es', ep', e1, e2⟩ := hm
      exact ⟨o', es', ep', k _ _ e1, e2⟩) J.hok I.bare
theorem strs_out : ∀ (l : List Value), (∀ v ∈ l, ∃ tk, v = .str (txt v) tk) → PyProof.Rows.StrsAre l (l.map txt)
  | [], _ => .nil
  | v :: l, h => by
    obtain ⟨tk, e⟩ := h v List.mem_cons_self
    rw [e]
    exact .cons _ tk (strs_out l fun u m => h u (List.mem_cons_of_mem _ m))
theorem cr_sortTx (hc : X.calm = true) : CallR X (.builtin "sorted") (rSortTx X.w) := by
  intro pins s σ H xs us Q I r h
  obtain ⟨a, M, rfl, ha, h64, q⟩ := h
  rw [Vals.ref1 r]
  have R : TxSet X.w s.heap a M := (I.hok a _ ha).1
  obtain ⟨⟨o, es, ep, t, ⟨ho, hex, hd⟩, g, em, ⟨hb, hf⟩, hr, hl⟩, nd⟩ := R
  have hM : M.length = es.size := by rw [← em]; unfold txts; rw [List.length_map, Array.length_toList]
  refine Calls.call_function_entry kind_sorted plain_sorted entry_sorted (args_sorted1 _) ?_
  unfold Builtin.«sorted»
  refine wpAny_bind (m := checkCount "sorted" 1 1 _) (wpAny_pure (wpAny_bind (collect_set (A := X.A.in1) (I.ok.hd hc) ⟨o, ho, hex.1, hd⟩ hf hb hr hl fun s1 vs k1 hz g1 o1 pm => ?_)))
  have hvl : vs.length = M.length := by rw [pm.length_eq, List.length_map, Array.length_toList, hM]
  have hS : PyProof.Rows.StrsAre vs (vs.map txt) := strs_out vs fun v m => by
    obtain ⟨e, me, z⟩ := List.mem_map.mp (pm.mem_iff.mp m)
    rw [← z]; exact (g e me).1
  have pk : (vs.map txt).Perm M := by
    have z := pm.map txt
    rw [List.map_map] at z
    rw [← em]; exact z
  refine wpAny_bind (wpAny_newList ?_ (by rw [hvl, sizeLine_eq]; omega))
  have hoL : (s1.heap.push (seqObj "list" vs.toArray 0)).get? s1.heap.objs.size = some (seqObj "list" vs.toArray 0) := Heap.get?_push_size _ rfl
  refine wpAny_bind (wpAny_holding (wpAny_call_entry slot_list_sort ⟨_, hoL, rfl⟩ entry_list_sort (list_sort_treeK strKind_oneLt hoL hS.keysOf (fun v₁ v₂ rest e => keyKind_strs (by rw [← e]; exact hS)) (by rw [hvl]; exact h64) fun st' hp hs => ⟨_, rfl, ?_⟩) (args_list_sort _)))
  obtain ⟨ys, h1, h2, h3⟩ := sorted_out_str hS hp hs
  obtain ⟨c, hc'⟩ := sortedHeap_at (vs := vs) (out := (arrOf st').map (·.2)) hoL
  have old : ∀ b u, s.heap.get? b = some u → (sortedHeap (s1.heap.push (seqObj "list" vs.toArray 0)) s1.heap.objs.size vs ((arrOf st').map (·.2))).get? b = some u := fun b u e => by
    have z := k1 b u e
    have lt := Heap.lt_size z
    rw [sortedHeap_old (Nat.ne_of_lt lt) (by rw [size_push']; exact Nat.lt_succ_of_lt lt)]
    exact Heap.get?_push_of_some _ z
  have pM : ys.Perm M := h2.trans pk
  have hlen : (ys.map V.str).length ≤ sizeLine := by rw [List.length_map, pM.length_eq, sizeLine_eq]; omega
  obtain ⟨hp1, gg, dd, tt, oo⟩ := s1
  have eg : gg = s.gens := g1
  have eo : oo = s.os := o1
  subst eg eo
  refine wpAny_pure ⟨_, rfl, .ref hp1.objs.size, upd H hp1.objs.size (.lst (ys.map V.str)), ?_, rfl, q ys _ pM h3 (I.hok.fresh hz)⟩
  dsimp only at old hc' ⊢
  revert old hc'
  generalize sortedHeap (hp1.push (seqObj "list" vs.toArray 0)) hp1.objs.size vs ((arrOf st').map (·.2)) = G
  intro hc' old
  exact laidD (s := s) (a := hp1.objs.size) (o := .lst (ys.map V.str)) (h' := G) (t' := tt) (d' := dd) I old hz ⟨hlen, ((arrOf st').map (·.2)).toList, c, vals_of_strs h1, hc'⟩
end
end J

set_option maxHeartbeats 4000000
namespace J
open PySem PySem.Spec PyProof.Rows L2
section
variable {K : PySem.W.Frag} {F F' F2 : Addr → Prop} {α α' α2 : List Addr} {H H' H2 : Hp} {S S' : Store} {v : V} {d : D} {ρ : Env} {ds : List D}
variable {X : Cx} {a b c e : Expr} {es : List Expr} {f g h : EX} {r : EL} {pos p p2 q2 : Pos} {x : Str}
theorem nub_len : ∀ xs : List Str, (nub xs).length ≤ xs.length
  | [] => Nat.le_refl _
  | x :: r => by
    have ih := nub_len r
    unfold nub
    split <;> simp only [List.length_cons] <;> omega
/-- sorted(set(xs)) -/
def lSortedSet (f : EX) : EL := fun ρ S => match f ρ S with
  | some (.lst xs, S1) => (match strs? xs with | some ys => if ys.length < 63 then some ((srt (nub ys)).map .str, S1) else none | none => none)
  | _ => none
theorem j_sortedSet {nm : Pos} (hc : X.calm = true) (g1 : Gl X "sorted") (m1 : X.mg "sorted" = none) (g2 : Gl X "set") (m2 : X.mg "set" = none) (q : PE X a (tW X.K f)) (h1 : starEach [(.Call (.Name "set" p) [a] [] pos : Expr)] X.env = (false, eval (.Call (.Name "set" p) [a] [] pos) X.env) :: starEach [] X.env := by rfl)
    (h2 : starEach [a] X.env = (false, eval a X.env) :: starEach [] X.env := by rfl) :
    PE X (.Call (.Name "sorted" nm) [.Call (.Name "set" p) [a] [] pos] [] p2) (tL X.K (lSortedSet f)) := by
  have q1 := pe_callTy (pos := pos) (p := p) (cr_setTx hc) g2 m2 (by decide +kernel) (pa_cons q pa_nil h2) (by decide) (by decide) h2 (by rfl)
  refine pe_weak (pe_callB (pos := p2) (p := nm) (cr_sortTx hc) g1 m1 (by decide +kernel) (pa_cons q1 pa_nil h1) (by decide) (by decide) h1 (by rfl)) fun σ H Q ⟨F, α, ρ, S, ds, S', h1, h2, h3, k⟩ => ?_
  unfold lSortedSet at h3
  split at h3
  · rename_i xs S1 e1
    split at h3
    · rename_i ys ez
      split at h3
      · rename_i hz
        cases h3
        refine ⟨F, α, ρ, S, _, _, h1, h2, e1, fun v F1 α1 H1 st1 hs1 rv => ?_⟩
        obtain ⟨l, vs, rfl, hl, r1⟩ := rv.seqL
        rw [strs_of r1 ez] at hl
        refine ⟨l, ys, rfl, hl, hz, fun p M hp pm => ?_⟩
        have lm : M.length < 64 := by
          have := pm.length_eq
          have := nub_len ys
          omega
        refine ⟨p, M, rfl, by rw [upd_same], lm, fun zs p2 pz sz hp2 => ?_⟩
        have st2 := Step.new (o := TxO X.w p M) hs1 hp
        have hs2 : StR X.K F1 α1 (upd H1 p (TxO X.w p M)) S' := hs1.new hp
        rw [srt_only (pz.trans pm) sz]
        exact PostL.lst (fun a vs F' α' H' st' hs hn nf hl r => k a vs F' α' H' ((st1.trans st2).trans st') hs ((st1.trans st2).back hn) nf hl r) hs2 (RpA.strs _) p2 hp2
      · cases h3
    · cases h3
  · cases h3
/-! ### t[::-1] of a tuple -/
theorem adjust_rev (n : Nat) : Builtin.Slice.sliceAdjust none none (-1) (n : Int) = ((n : Int) - 1, -1) := by
  unfold Builtin.Slice.sliceAdjust
  simp
theorem fm_some {α β : Type} (g : α → Option β) (h : α → β) : ∀ l : List α, (∀ m ∈ l, g m = some (h m)) → l.filterMap g = l.map h
  | [], _ => rfl
  | x :: l, e => by rw [List.filterMap_cons, e x List.mem_cons_self]; simp only [List.map_cons]; rw [fm_some g h l fun m q => e m (List.mem_cons_of_mem _ q)]
theorem rev_pick (xs : Array Value) : ((List.range xs.size).filterMap fun (m : Nat) => xs[((xs.size : Int) - 1 + (m : Int) * (-1)).toNat]?).toArray = xs.toList.reverse.toArray := by
  congr 1
  rw [fm_some (fun (m : Nat) => xs[((xs.size : Int) - 1 + (m : Int) * (-1)).toNat]?) (fun m => xs.toList.reverse.getD m .none) _ fun m hm => ?_]
  · apply List.ext_getElem
    · simp
    · intro i h1 h2
      simp at h1 ⊢
      have l2 : xs.size - 1 - i < xs.size := by omega
      simp [h1, l2, List.getD_eq_getElem?_getD]
  · have lt := List.mem_range.mp hm
    have q : ((xs.size : Int) - 1 + (m : Int) * (-1)).toNat = xs.size - 1 - m := by omega
    have l2 : xs.size - 1 - m < xs.size := by omega
    show xs[((xs.size : Int) - 1 + (m : Int) * (-1)).toNat]? = _
    rw [q, List.getD_eq_getElem?_getD, List.getElem?_reverse (by simpa using lt)]
    simp [l2]
theorem places_rev (n : Nat) : Builtin.Slice.slicePlaces ((n : Int) - 1) (-1) (-1) = n := by
  unfold Builtin.Slice.slicePlaces
  have h1 : ¬ ((-1 : Int) > 0) := by omega
  have h2 : (-(-1 : Int)) = 1 := rfl
  simp only [h1, if_false, h2, Int.ediv_one]
  split <;> omega
section
variable {prog : Program} {w : World} {A : Around} {E : Value → Shared → Prop} {s : Shared}
theorem applied_rev {sl : Addr} {vl vu vs : Value} {n : Nat} {Q : Int × Int × Nat → Shared → Prop} (hs : s.heap.IsSliceOf sl vl vu vs) (pl : IsPart vl none) (pu : IsPart vu none) (ps : IsPart vs (some (-1)))
    (h : Q ((n : Int) - 1, -1, n) s) : wpAny (model prog w) A (Builtin.Slice.sliceApplied (.ref sl) (pure (n : Int))) Q E s := by
  obtain ⟨os, hos, hcs, hds⟩ := id hs
  unfold Builtin.Slice.sliceApplied Builtin.Slice.sliceFields
  refine wpAny_bind (wpAny_bind (wpAny_field hos hds (x := vl) rfl (wpAny_bind (wpAny_field hos hds (x := vu) rfl (wpAny_bind (wpAny_field hos hds (x := vs) rfl (wpAny_pure ?_)))))))
  refine wpAny_bind (HT.slicePart_ ps ?_)
  show wpAny _ _ (if ((-1 : Int) == 0) = true then _ else _) _ _ s
  rw [if_neg (by decide)]
  refine wpAny_bind (HT.slicePart_ pl (wpAny_bind (HT.slicePart_ pu (wpAny_bind (wpAny_pure ?_)))))
  show wpAny _ _ (match Builtin.Slice.sliceAdjust none none (-1) (n : Int) with | (lo, hi) => pure (lo, (-1 : Int), Builtin.Slice.slicePlaces lo hi (-1))) _ _ s
  rw [adjust_rev n]
  show wpAny _ _ (pure ((n : Int) - 1, (-1 : Int), Builtin.Slice.slicePlaces ((n : Int) - 1) (-1) (-1))) _ _ s
  rw [places_rev]
  exact wpAny_pure h
theorem getTup_rev {t sl : Addr} {items : Array Value} {vl vu vs : Value} {Q : Value → Shared → Prop} (ht : IsTup s.heap t items) (hs : s.heap.IsSliceOf sl vl vu vs) (pl : IsPart vl none) (pu : IsPart vu none) (ps : IsPart vs (some (-1)))
    (h : Q (.ref s.heap.objs.size) { s with heap := s.heap.push { cls := .type "tuple", data := .seq items.toList.reverse.toArray } })
    (hsz : items.size ≤ sizeLine) : wpAny (model prog w) A (getItem (.ref t) (.ref sl)) Q E s := by
  obtain ⟨os, hos, hcs, hds⟩ := id hs
  have hTs : s.TypeIs (.ref sl) "slice" := ⟨os, hos, hcs⟩
  unfold getItem
  try with_reducible refine wpAny_holding ?_
  first | refine wpAny_bind (wpAny_pure ?_) | skip
  refine wpAny_bind (wpAny_sequenceKey ht.typeIs (by decide) ?_)
  refine wpAny_bind (wpAny_callSpecial?_slot (name := Str.ofString "__getitem__") ht.typeIs PyProof.Rows.slot_tuple_getitem
    (wpAny_call_entry PyProof.Rows.slot_tuple_getitem ht.typeIs entry_tuple_getitem ?_ (args_tuple_getitem _ _)))
  show wpAny _ _ (Builtin.Tuple.tupleItemsOf (.ref t) >>= _) _ _ s
  refine wpAny_bind (tupleItemsOf_ ht ?_)
  refine wpAny_bind (wpAny_typeOf hTs ?_)
  rw [if_pos (by decide)]
  refine wpAny_bind (applied_rev hs pl pu ps ?_)
  show wpAny _ _ (if (((items.size : Int) - 1 == 0 && (-1 : Int) == 1 && items.size == items.size) = true) then _ else _) _ _ s
  rw [if_neg (by rw [show ((-1 : Int) == 1) = false from rfl]; simp), rev_pick]
  have htake : sizeOk (.seq items.toList.reverse.toArray) := by
    show items.toList.reverse.toArray.size ≤ sizeLine
    simpa using hsz
  first
    | exact wpAny_bind (m := Builtin.Tuple.tupleExact _) (wpAny_newObj_type (wpAny_pure ⟨_, rfl, wpAny_pure h⟩) htake)
    | exact wpAny_bind (m := Builtin.Tuple.tupleExact _) (wpAny_newObj_type (wpAny_bind (wpAny_pure (wpAny_pure ⟨_, rfl, wpAny_pure h⟩))) htake)
    | exact wpAny_bind (wpAny_bind (m := Builtin.Tuple.tupleExact _) (wpAny_newObj_type (wpAny_pure (wpAny_pure ⟨_, rfl, wpAny_pure h⟩)) htake))
    | exact wpAny_bind (wpAny_bind (m := Builtin.Tuple.tupleExact _) (wpAny_newObj_type (wpAny_pure ⟨_, rfl, wpAny_pure h⟩) htake))
end
/-- t[::-1] -/
def eRev (f : EX) : EX := fun ρ S => match f ρ S with | some (.tup x, S1) => some (.tup x.reverse, S1) | _ => none
theorem j_revT {k : Nat} {p1 p2 p3 : Pos} (he : PE X a (tW X.K f)) : PE X (.Subscript a (.Slice none none (some (.UnaryOp .USub (.Constant (.int 1) k p1) p2)) p3) pos) (tV X.K (eRev f)) := by
  refine pe_weak (t := fun σ H Q => tW X.K f σ H fun x H1 => ∃ a xs, x = .ref a ∧ SqT X.K H1 a xs ∧ ∀ p, H1 p = none → Q (.ref p) (upd H1 p (.tup xs.reverse))) ⟨fun pins s σ H Q I h => ?_⟩ fun σ H Q ⟨F, α, ρ, S, d, S', h1, h2, h3, kk⟩ => ?_
  · refine Subscript_ (thn (he.run pins s σ H _ I h) fun v s1 ⟨x, H1, I1, r1, q1⟩ => ?_)
    obtain ⟨a, xs, ex, hx, q⟩ := q1
    subst ex
    cases r1
    have hst : PO X (some (.UnaryOp .USub (.Constant (.int 1) k p1) p2)) (tPart (tUn (rU fun i => .int (-i)) (tC (.int 1)))) := po_some (pe_un un_neg pe_int)
    refine wpAny_Slice (thn (po_none.run pins s1 σ H1 (fun o H2 => o = none ∧ H2 = H1) I1 ⟨rfl, rfl⟩) fun vl s2 ⟨l, H2, I2, pl, el, e2⟩ => ?_)
    subst el e2
    refine thn (po_none.run pins s2 σ H2 (fun o H3 => o = none ∧ H3 = H2) I2 ⟨rfl, rfl⟩) fun vu s3 ⟨u, H3, I3, pu, eu, e3⟩ => ?_
    subst eu e3
    refine thn (hst.run pins s3 σ H3 (fun o H4 => o = some (-1) ∧ H4 = H3) I3 ⟨1, rfl, -1, rfl, rfl, rfl⟩) fun vs s4 ⟨o, H4, I4, ps, eo, e4⟩ => ?_
    subst eo e4
    have I5 : Inv X pins σ H4 { s4 with heap := s4.heap.push { cls := .type "slice", data := .fields #[vl, vu, vs] } } := I4.kept (t' := s4.toks) fun b ob q => Heap.get?_push_of_some _ q
    obtain ⟨its, r, ht, hz⟩ := I5.tuple hx
    have hlen := r.length
    show wpAny (model X.prog X.w) X.A (subscriptTail _ _ (.ref a) (.ref s4.heap.objs.size)) (EP X pins σ Q) X.xe { s4 with heap := s4.heap.push { cls := .type "slice", data := .fields #[vl, vu, vs] } }
    refine tail_any (ops := [.ref a, .ref s4.heap.objs.size]) ht.typeIs (PyProof.Rows.slot_tuple_getitem.lookup) ?_ (by with_unfolding_all rfl)
    refine getTup_rev ht (Heap.IsSliceOf.new _ vl vu vs) pl pu ps ?_ (by rw [List.size_toArray]; omega)
    refine ⟨.ref _, _, I5.laid (t' := s4.toks) (o := .tup xs.reverse) (fun b ob q => Heap.get?_push_of_some _ q) (Nat.le_refl _) ?_, rfl, q _ (I5.hok.fresh (Nat.le_refl _))⟩
    exact ⟨by rw [List.length_reverse]; exact hz, _, r.reverse, IsTup.new _ _⟩
  · unfold eRev at h3
    split at h3
    · rename_i x S1 e1
      cases h3
      refine ⟨F, α, ρ, S, _, _, h1, h2, e1, fun v F1 α1 H1 st1 hs1 rv => ?_⟩
      obtain ⟨b, vs, rfl, ha, r1⟩ := rv.seqT
      exact ⟨b, vs, rfl, ha, Post.tup (fun v F' α' H' st' hs r => kk v F' α' H' (st1.trans st') hs r) hs1 r1.reverse⟩
    · cases h3
end
end J

set_option maxHeartbeats 4000000
namespace J
open PySem PySem.Spec PyProof.Rows L2
/-! ### a def that calls itself: nothing is said of it without fuel -/
def gNone : GS := fun _ _ => none
theorem does_zero {P : Program} {w : World} {K : PySem.W.Frag} {mg : Str → Option Value} {base : Heap} {x qual : Str} {st : Stmt} {N ps : List Str} {k : Nat} (hh : Here K mg x qual st ps) (Sc : FnScope N ps (defScope st)) : Does P w K mg base (k + 1) x ps (runDef N.length gNone) :=
  does_of hh Sc fun fa cdv A outer s H E F0 α0 hr => ⟨fun pins s σ H D I ⟨F, α, ρ, S, o, S', h1, h2, h3⟩ => by cases h2⟩
end J

set_option maxHeartbeats 4000000
namespace J
open PySem PySem.Spec PyProof.Rows L2
/-! ### the law's end -/
theorem fz_of {K : PySem.W.Frag} {H : Hp} {a : Addr} {xs : List V} (hO : Only H) (h : SqL K H a xs) : Fz K H a xs := by
  rcases h with (h | h) | h
  · rcases hO a with z | ⟨_, _, z⟩ <;> rw [h] at z <;> cases z
  · exact .inl h
  · exact .inr h
theorem law_sp {K : PySem.W.Frag} {H : Hp} {a : Addr} {ns : List Int} {n : Nat} {f : FN} (hl : ns.length ≤ n) (hO : Only H) (hS : SqL K H a (ns.map V.int)) (t : ∃ S', f [.frz (ns.map D.int)] [] = some (.bl true, S')) : spF K f 1 [.ref a] H (fun v _ => v = .bl true) fun _ _ _ => False := by
  obtain ⟨S', e⟩ := t
  refine ⟨rfl, fun _ => False, [], [], [.frz (ns.map D.int)], .bl true, S', ⟨rfl, List.nodup_nil, fun _ z => z.elim, fun n a z => by simp at z⟩, .cons (.frz (fz_of hO hS) (ints_ ns)) .nil, e, fun v F' α' H' _ _ r => by cases r; rfl⟩
where ints_ : ∀ ns : List Int, RpA K (fun _ => False) [] H (ns.map V.int) (ns.map D.int)
  | [] => .nil
  | x :: r => .cons (.int x) (ints_ r)
end J

set_option maxHeartbeats 4000000
namespace J
open PySem PySem.Spec PyProof.Rows L2
/-! ### readings that leave the store -/
theorem lcGo_map {bd : BD} {cond : ET} {elt : EX} {ρ : Env} {S : Store} (g : D → D) : ∀ xs : List D, (∀ x ∈ xs, ∃ ρ1, bd x ρ = some ρ1 ∧ cond ρ1 S = some (true, S) ∧ elt ρ1 S = some (g x, S)) → lcGo bd cond elt ρ xs S = some (xs.map g, S)
  | [], _ => rfl
  | x :: r, h => by
    obtain ⟨ρ1, h1, h2, h3⟩ := h x List.mem_cons_self
    unfold lcGo
    rw [h1]; simp only; rw [h2]; simp only; rw [h3]; simp only; rw [lcGo_map g r fun y m => h y (List.mem_cons_of_mem _ m)]; rfl
theorem lcGo_filter {bd : BD} {cond : ET} {elt : EX} {ρ : Env} {S : Store} (p : D → Bool) : ∀ xs : List D, (∀ x ∈ xs, ∃ ρ1, bd x ρ = some ρ1 ∧ cond ρ1 S = some (p x, S) ∧ elt ρ1 S = some (x, S)) → lcGo bd cond elt ρ xs S = some (xs.filter p, S)
  | [], _ => rfl
  | x :: r, h => by
    obtain ⟨ρ1, h1, h2, h3⟩ := h x List.mem_cons_self
    unfold lcGo
    rw [h1]; simp only; rw [h2]
    have ih := lcGo_filter p r fun y m => h y (List.mem_cons_of_mem _ m)
    cases q : p x
    · simp only; rw [ih, List.filter_cons_of_neg (by simp [q])]
    · simp only; rw [h3]; simp only; rw [ih, List.filter_cons_of_pos q]
theorem lComp_map {vs : List Nat} {l : EL} {bd : BD} {cond : ET} {elt : EX} {ρ : Env} {S : Store} {xs : List D} (g : D → D) (hl : l ρ S = some (xs, S)) (hz : xs.length ≤ 16777216) (h : ∀ x ∈ xs, ∃ ρ1, bd x (wipeE ρ vs) = some ρ1 ∧ cond ρ1 S = some (true, S) ∧ elt ρ1 S = some (g x, S)) :
    lComp vs l bd cond elt ρ S = some (xs.map g, S) := by
  unfold lComp
  rw [hl]; simp only; rw [lcGo_map g xs h]; simp only
  rw [if_pos (by rw [List.length_map, sizeLine_eq]; exact hz)]
theorem lComp_filter {vs : List Nat} {l : EL} {bd : BD} {cond : ET} {elt : EX} {ρ : Env} {S : Store} {xs : List D} (p : D → Bool) (hl : l ρ S = some (xs, S)) (hz : xs.length ≤ 16777216) (h : ∀ x ∈ xs, ∃ ρ1, bd x (wipeE ρ vs) = some ρ1 ∧ cond ρ1 S = some (p x, S) ∧ elt ρ1 S = some (x, S)) :
    lComp vs l bd cond elt ρ S = some (xs.filter p, S) := by
  unfold lComp
  rw [hl]; simp only; rw [lcGo_filter p xs h]; simp only
  rw [if_pos (by have := List.length_filter_le p xs; rw [sizeLine_eq]; omega)]
theorem bls_map (p : D → Bool) : ∀ xs : List D, bls? (xs.map fun x => .bl (p x)) = some (xs.map p)
  | [] => rfl
  | x :: r => by rw [List.map_cons, bls?, bls_map p r]; rfl
theorem gAll_map (p : D → Bool) (xs : List D) : gAll [.lst (xs.map fun x => .bl (p x))] = some (.bl (xs.all p)) := by
  show (bls? (xs.map fun x => .bl (p x))).map (fun bs => D.bl (bs.all id)) = _
  rw [bls_map]
  show some (D.bl ((xs.map p).all id)) = _
  rw [List.all_map]; rfl

/-! ### good data: bounded, plain -/
mutual
def good : D → Bool
  | .non => true
  | .bl _ => true
  | .int _ => true
  | .str z => z.cps.all (· < 0x110000) && decide (z.length ≤ 3000)
  | .lst xs => decide (xs.length ≤ 20000) && goods xs
  | .tup xs => decide (xs.length ≤ 20000) && goods xs
  | .frz _ => false
  | .obj _ => false
def goods : List D → Bool
  | [] => true
  | x :: r => good x && goods r
end
mutual
def dpt : D → Nat
  | .lst xs => dpts xs + 1
  | .tup xs => dpts xs + 1
  | .non => 0 | .bl _ => 0 | .int _ => 0 | .str _ => 0 | .frz _ => 0 | .obj _ => 0
def dpts : List D → Nat
  | [] => 0
  | x :: r => max (dpt x) (dpts r)
end
theorem goods_all : ∀ xs : List D, goods xs = true ↔ ∀ x ∈ xs, good x = true
  | [] => by simp [goods]
  | x :: r => by rw [goods, Bool.and_eq_true, goods_all r]; simp
theorem dpts_le {n : Nat} : ∀ xs : List D, dpts xs ≤ n ↔ ∀ x ∈ xs, dpt x ≤ n
  | [] => by simp [dpts]
  | x :: r => by rw [dpts, Nat.max_le, dpts_le r]; simp
mutual
theorem good_py : ∀ d : D, good d = true → ∃ y, toPy d = some y ∧ y.canLay0 = true ∧ y.depth = dpt d
  | .non, _ => ⟨_, rfl, rfl, rfl⟩
  | .bl _, _ => ⟨_, rfl, rfl, rfl⟩
  | .int _, _ => ⟨_, rfl, rfl, rfl⟩
  | .str z, h => ⟨_, rfl, by rw [good, Bool.and_eq_true] at h; exact h.1, rfl⟩
  | .lst xs, h => by
    rw [good, Bool.and_eq_true] at h
    obtain ⟨ys, e, c, p⟩ := goods_py xs h.2
    exact ⟨.list ys, by rw [toPy, e], c, by rw [PyData.depth, p, dpt]⟩
  | .tup xs, h => by
    rw [good, Bool.and_eq_true] at h
    obtain ⟨ys, e, c, p⟩ := goods_py xs h.2
    exact ⟨.tuple ys, by rw [toPy, e], c, by rw [PyData.depth, p, dpt]⟩
  | .frz _, h => by cases h
  | .obj _, h => by cases h
theorem goods_py : ∀ ds : List D, goods ds = true → ∃ ys, toPys ds = some ys ∧ PyData.canLayAll0 ys = true ∧ PyData.depthAll ys = dpts ds
  | [], _ => ⟨_, rfl, rfl, rfl⟩
  | x :: r, h => by
    rw [goods, Bool.and_eq_true] at h
    obtain ⟨y, e, c, p⟩ := good_py x h.1
    obtain ⟨ys, e2, c2, p2⟩ := goods_py r h.2
    exact ⟨y :: ys, by rw [toPys, e, e2], by rw [PyData.canLayAll0, c, c2]; rfl, by rw [PyData.depthAll, p, p2, dpts]⟩
end
theorem shaped_of {y : PyData} (c : y.canLay0 = true) (d : y.depth ≤ 64) : SeqAt.shaped y = true := by
  unfold SeqAt.shaped; rw [c, decide_eq_true d]; rfl
/-- a list of good things against [] -/
theorem gEq_nil {neg : Bool} {xs : List D} (g : goods xs = true) (d : dpts xs ≤ 63) : gEq neg (.lst xs) (.lst []) = some (.bl (if neg then !xs.isEmpty else xs.isEmpty)) := by
  obtain ⟨ys, e, c, p⟩ := goods_py xs g
  unfold gEq
  rw [show toPy (.lst xs) = some (.list ys) by rw [toPy, e]]
  simp only [show toPy (.lst []) = some (.list []) from rfl]
  rw [if_pos ⟨shaped_of c (by rw [PyData.depth]; omega), rfl⟩]
  have : PyData.eqv (.list ys) (.list []) = xs.isEmpty := by
    cases xs with
    | nil => cases e; rfl
    | cons x r =>
      rw [toPys] at e
      split at e
      · cases e; rfl
      · cases e
  rw [this]
def isUnit : D → Bool | .tup [] => true | _ => false
theorem gEq_unit {neg : Bool} {x : D} (g : good x = true) (d : dpt x ≤ 64) : gEq neg x (.tup []) = some (.bl (if neg then !isUnit x else isUnit x)) := by
  obtain ⟨y, e, c, p⟩ := good_py x g
  unfold gEq
  rw [e]
  simp only [show toPy (.tup []) = some (.tuple []) from rfl]
  rw [if_pos ⟨shaped_of c (by omega), rfl⟩]
  have : PyData.eqv y (.tuple []) = isUnit x := by
    cases x with
    | tup xs =>
      cases xs with
      | nil => cases e; rfl
      | cons x r =>
        rw [toPy, toPys] at e
        split at e
        · rename_i ys q
          split at q
          · cases q; cases e; rfl
          · cases q
        · cases e
    | lst xs =>
      rw [toPy] at e
      split at e
      · cases e; rfl
      · cases e
    | non => cases e; rfl
    | bl b => cases e; cases b <;> rfl
    | int i => cases e; rfl
    | str z => cases e; rfl
    | frz _ => cases e
    | obj _ => cases e
  rw [this]
end J

set_option maxHeartbeats 8000000
namespace K1
open PySem PySem.Spec PyProof.Rows L2 J
def top (i : Nat) : Stmt := PySem.Challenge.pw_rebuiltby_k01_kinds.main.body.getD i (.Pass ⟨0, 0, 0, 0⟩)
structure Txt (K : PySem.W.Frag) (mg : Str → Option Value) : Prop where
  b_all : mg "all" = none
  b_bool : mg "bool" = none
  b_enumerate : mg "enumerate" = none
  b_int : mg "int" = none
  b_isinstance : mg "isinstance" = none
  b_len : mg "len" = none
  b_list : mg "list" = none
  b_range : mg "range" = none
  b_set : mg "set" = none
  b_sorted : mg "sorted" = none
  b_str : mg "str" = none
  b_tuple : mg "tuple" = none
  c_FIRST_SIGNS : ∃ t, mg "FIRST_SIGNS" = some (.str ("abcdefghijklmnopqrstuvwxyz" : Str) t)
  c_SIGNS : ∃ t, mg "SIGNS" = some (.str ("abcdefghijklmnopqrstuvwxyz0123456789" : Str) t)
  c_LONGEST_NAME : ∃ t, mg "LONGEST_NAME" = some (.int 8 t)
abbrev s_is_integer : Stmt := top 4
abbrev N_is_integer : List Str := ["thing"]
theorem sc_is_integer : FnScope N_is_integer ["thing"] (defScope s_is_integer) := ⟨rfl, rfl, rfl, by decide +kernel, rfl, by decide +kernel, by decide +kernel⟩
def g_is_integer : GS := (sRet (eAnd (e1 (gIsi .int) (eP 0)) (eNot (e1 (gIsi .bool) (eP 0)))))
def f_is_integer : FN := runDef 1 g_is_integer
theorem ok_is_integer {P : Program} {w : World} {K : PySem.W.Frag} {mg : Str → Option Value} {base : Heap} (h : Here K mg "is_integer" "is_integer" s_is_integer ["thing"]) (T : Txt K mg) : Does P w K mg base 1 "is_integer" ["thing"] f_is_integer :=
  does_of h sc_is_integer fun fa cdv A outer s H E F0 α0 hr => ((j_last (j_ret (j_andV (j_isi (T := .int) (pe_callB call_isi (by rfl) T.b_isinstance (by decide +kernel) (pa_cons (j_peek 0 (pv 0)) (pa_cons (pe_bltn (by rfl) T.b_int (by decide +kernel) rfl) pa_nil)))) (j_one (j_notV (j_isi (T := .bool) (pe_callB call_isi (by rfl) T.b_isinstance (by decide +kernel) (pa_cons (j_peek 0 (pv 0)) (pa_cons (pe_bltn (by rfl) T.b_bool (by decide +kernel) rfl) pa_nil))))))))) : PSs _ _ (tS _ F0 α0 H g_is_integer))
abbrev s_is_number : Stmt := top 5
abbrev N_is_number : List Str := ["thing"]
theorem sc_is_number : FnScope N_is_number ["thing"] (defScope s_is_number) := ⟨rfl, rfl, rfl, by decide +kernel, rfl, by decide +kernel, by decide +kernel⟩
def g_is_number : GS := (sRet (eAnd (eCall f_is_integer (aC (eV 0) aN)) (e2 gGe (eP 0) (eC (.int 0)))))
def f_is_number : FN := runDef 1 g_is_number
theorem ok_is_number {P : Program} {w : World} {K : PySem.W.Frag} {mg : Str → Option Value} {base : Heap} (h : Here K mg "is_number" "is_number" s_is_number ["thing"]) (T : Txt K mg) (d_is_integer : Does P w K mg base 1 "is_integer" ["thing"] f_is_integer) : Does P w K mg base 2 "is_number" ["thing"] f_is_number :=
  does_of h sc_is_number fun fa cdv A outer s H E F0 α0 hr => ((j_last (j_ret (j_andV (j_callD d_is_integer hr (by decide) (by rfl) (j_ac (j_var 0 (pv 0)) j_an) (fun ρ S ds S' z => len_1 z) rfl) (j_one (j_op sp_ord (pe_cmpR op_geJ (j_peek 0 (pv 0)) (vw (j_c pe_int (.int 0))) (nomark _))))))) : PSs _ _ (tS _ F0 α0 H g_is_number))
abbrev s_is_name : Stmt := top 6
abbrev N_is_name : List Str := ["thing", "sign"]
theorem sc_is_name : FnScope N_is_name ["thing"] (defScope s_is_name) := ⟨rfl, rfl, rfl, by decide +kernel, rfl, by decide +kernel, by decide +kernel⟩
def g_is_name : GS := (sSeq (sIf (tOrJ (tNotJ (tTru (e1 (gIsi .str) (eP 0)))) (tNotJ (tOf (eCh gLe gLe (eC (.int 1)) (aG gLen (aC (eP 0) aN)) (eC (.int 8)))))) (sRet (eC (.bl false))) sNil) (sRet (eAnd (e2 (gIn false) (e2 gIx (eP 0) (eC (.int 0))) (eC (.str ("abcdefghijklmnopqrstuvwxyz" : Str)))) (aG gAll (aC (eL (lComp [1] (iOf (eP 0)) (bName 1) cYes (e2 (gIn false) (eP 1) (eC (.str ("abcdefghijklmnopqrstuvwxyz0123456789" : Str)))))) aN)))))
def f_is_name : FN := runDef 2 g_is_name
theorem ok_is_name {P : Program} {w : World} {K : PySem.W.Frag} {mg : Str → Option Value} {base : Heap} (h : Here K mg "is_name" "is_name" s_is_name ["thing"]) (T : Txt K mg) : Does P w K mg base 1 "is_name" ["thing"] f_is_name :=
  does_of h sc_is_name fun fa cdv A outer s H E F0 α0 hr => ((j_seq (j_ifS (PW.pt (j_or (j_not (j_tru (vw (j_isi (T := .str) (pe_callB call_isi (by rfl) T.b_isinstance (by decide +kernel) (pa_cons (j_peek 0 (pv 0)) (pa_cons (pe_bltn (by rfl) T.b_str (by decide +kernel) rfl) pa_nil))))))) (j_or1 (j_not (j_chT sp_ord sp_ord (pt_chain op_leJ op_leJ (vw (j_c pe_int (.int 1))) (vw (j_cb sp_len (pe_callB call_lenJ (by rfl) T.b_len PySem.boot_len (j_acW (j_peek 0 (pv 0)) j_anW)))) (vw (j_gI (by rfl) T.c_LONGEST_NAME)))))))) (j_last (j_ret (j_c pe_bl (.bl false)))) j_nil) (j_last (j_ret (j_andV (j_op sp_in (pe_cmpR (op_inJ (hu65 hr)) (vw (j_op sp_ix (pe_ix ix_seq (j_peek 0 (pv 0)) (vw (j_c pe_int (.int 0))) (fun _ _ => rfl)))) (vw (j_gS (by rfl) T.c_FIRST_SIGNS)) (by with_unfolding_all rfl))) (j_one (j_cb sp_all (pe_callB (cr_all rfl) (by rfl) T.b_all (by decide +kernel) (j_acW (lw (j_comp (sg_name (i := 1) (vs := [1]) (by decide)) (pe_lc (own := [("sign", 1)]) (g := (gName 1)) (tt := tT _ cYes) (te := tV _ (e2 (gIn false) (eP 1) (eC (.str ("abcdefghijklmnopqrstuvwxyz0123456789" : Str))))) (by rfl) sc_is_name.nd (j_itW (j_peek 0 (pv 0))) (blkOk_by (own := [("sign", 1)]) (N := N_is_name) (sc := (defScope s_is_name)) (by decide +kernel)) (fun _ _ _ _ _ => (pg_name (i := 1) sc_is_name.nd rfl (Or.inl rfl))) (fun _ _ _ _ _ => j_yes) (fun _ _ _ _ _ => (j_op sp_in (pe_cmpR (op_inJ (hu65 hr)) (j_peek 1 (pv 1)) (vw (j_gS (by rfl) T.c_SIGNS)) (by with_unfolding_all rfl))))))) j_anW)))))))) : PSs _ _ (tS _ F0 α0 H g_is_name))
abbrev s_is_names : Stmt := top 7
abbrev N_is_names : List Str := ["thing", "name"]
theorem sc_is_names : FnScope N_is_names ["thing"] (defScope s_is_names) := ⟨rfl, rfl, rfl, by decide +kernel, rfl, by decide +kernel, by decide +kernel⟩
def g_is_names : GS := (sRet (eAnd (e1 (gIsi .tuple) (eP 0)) (aG gAll (aC (eL (lComp [1] (iOf (eP 0)) (bName 1) cYes (eCall f_is_name (aC (eV 1) aN)))) aN))))
def f_is_names : FN := runDef 2 g_is_names
theorem ok_is_names {P : Program} {w : World} {K : PySem.W.Frag} {mg : Str → Option Value} {base : Heap} (h : Here K mg "is_names" "is_names" s_is_names ["thing"]) (T : Txt K mg) (d_is_name : Does P w K mg base 1 "is_name" ["thing"] f_is_name) : Does P w K mg base 2 "is_names" ["thing"] f_is_names :=
  does_of h sc_is_names fun fa cdv A outer s H E F0 α0 hr => ((j_last (j_ret (j_andV (j_isi (T := .tuple) (pe_callB call_isi (by rfl) T.b_isinstance (by decide +kernel) (pa_cons (j_peek 0 (pv 0)) (pa_cons (pe_bltn (by rfl) T.b_tuple (by decide +kernel) rfl) pa_nil)))) (j_one (j_cb sp_all (pe_callB (cr_all rfl) (by rfl) T.b_all (by decide +kernel) (j_acW (lw (j_comp (sg_name (i := 1) (vs := [1]) (by decide)) (pe_lc (own := [("name", 1)]) (g := (gName 1)) (tt := tT _ cYes) (te := tV _ (eCall f_is_name (aC (eV 1) aN))) (by rfl) sc_is_names.nd (j_itW (j_peek 0 (pv 0))) (blkOk_by (own := [("name", 1)]) (N := N_is_names) (sc := (defScope s_is_names)) (by decide +kernel)) (fun _ _ _ _ _ => (pg_name (i := 1) sc_is_names.nd rfl (Or.inl rfl))) (fun _ _ _ _ _ => j_yes) (fun _ _ _ _ _ => (j_callD d_is_name hr (by decide) (by rfl) (j_ac (j_var 1 (pv 1)) j_an) (fun ρ S ds S' z => len_1 z) rfl))))) j_anW))))))) : PSs _ _ (tS _ F0 α0 H g_is_names))
abbrev s_is_rising : Stmt := top 8
abbrev N_is_rising : List Str := ["rows", "k"]
theorem sc_is_rising : FnScope N_is_rising ["rows"] (defScope s_is_rising) := ⟨rfl, rfl, rfl, by decide +kernel, rfl, by decide +kernel, by decide +kernel⟩
def g_is_rising : GS := (sRet (aG gAll (aC (eL (lComp [1] (iRg1 (aC (e2 (gI0 fun i j => i - j) (aG gLen (aC (eP 0) aN)) (eC (.int 1))) aN)) (bName 1) cYes (e2 gLt (e2 gIx (eP 0) (eP 1)) (e2 gIx (eP 0) (e2 gAdd (eP 1) (eC (.int 1))))))) aN)))
def f_is_rising : FN := runDef 2 g_is_rising
theorem ok_is_rising {P : Program} {w : World} {K : PySem.W.Frag} {mg : Str → Option Value} {base : Heap} (h : Here K mg "is_rising" "is_rising" s_is_rising ["rows"]) (T : Txt K mg) : Does P w K mg base 1 "is_rising" ["rows"] f_is_rising :=
  does_of h sc_is_rising fun fa cdv A outer s H E F0 α0 hr => ((j_last (j_ret (j_cb sp_all (pe_callB (cr_all rfl) (by rfl) T.b_all (by decide +kernel) (j_acW (lw (j_comp (sg_name (i := 1) (vs := [1]) (by decide)) (pe_lc (own := [("k", 1)]) (g := (gName 1)) (tt := tT _ cYes) (te := tV _ (e2 gLt (e2 gIx (eP 0) (eP 1)) (e2 gIx (eP 0) (e2 gAdd (eP 1) (eC (.int 1)))))) (by rfl) sc_is_rising.nd (j_iw (j_rg1 (pi_range1 (by rfl) T.b_range (j_acW (vw (j_op sp_I0 (pe_op op_sub (vw (j_cb sp_len (pe_callB call_lenJ (by rfl) T.b_len PySem.boot_len (j_acW (j_peek 0 (pv 0)) j_anW)))) (vw (j_c pe_int (.int 1)))))) j_anW)))) (blkOk_by (own := [("k", 1)]) (N := N_is_rising) (sc := (defScope s_is_rising)) (by decide +kernel)) (fun _ _ _ _ _ => (pg_name (i := 1) sc_is_rising.nd rfl (Or.inl rfl))) (fun _ _ _ _ _ => j_yes) (fun _ _ _ _ _ => (j_op sp_lt (pe_cmpR (op_ltJ hr.units0) (vw (j_op sp_ix (pe_ix ix_seq (j_peek 0 (pv 0)) (j_peek 1 (pv 1)) (fun _ _ => rfl)))) (vw (j_op sp_ix (pe_ix ix_seq (j_peek 0 (pv 0)) (vw (j_op sp_add (pe_op op_addJ (j_peek 1 (pv 1)) (vw (j_c pe_int (.int 1)))))) (fun _ _ => rfl)))) (nomark _))))))) j_anW))))) : PSs _ _ (tS _ F0 α0 H g_is_rising))
abbrev s_is_set : Stmt := top 9
abbrev N_is_set : List Str := ["thing"]
theorem sc_is_set : FnScope N_is_set ["thing"] (defScope s_is_set) := ⟨rfl, rfl, rfl, by decide +kernel, rfl, by decide +kernel, by decide +kernel⟩
def g_is_set : GS := (sRet (eAnd (eCall f_is_names (aC (eV 0) aN)) (eCall f_is_rising (aC (eV 0) aN))))
def f_is_set : FN := runDef 1 g_is_set
theorem ok_is_set {P : Program} {w : World} {K : PySem.W.Frag} {mg : Str → Option Value} {base : Heap} (h : Here K mg "is_set" "is_set" s_is_set ["thing"]) (T : Txt K mg) (d_is_names : Does P w K mg base 2 "is_names" ["thing"] f_is_names) (d_is_rising : Does P w K mg base 1 "is_rising" ["rows"] f_is_rising) : Does P w K mg base 3 "is_set" ["thing"] f_is_set :=
  does_of h sc_is_set fun fa cdv A outer s H E F0 α0 hr => ((j_last (j_ret (j_andV (j_callD d_is_names hr (by decide) (by rfl) (j_ac (j_var 0 (pv 0)) j_an) (fun ρ S ds S' z => len_1 z) rfl) (j_one (j_callD d_is_rising hr (by decide) (by rfl) (j_ac (j_var 0 (pv 0)) j_an) (fun ρ S ds S' z => len_1 z) rfl))))) : PSs _ _ (tS _ F0 α0 H g_is_set))
abbrev s_is_row : Stmt := top 10
abbrev N_is_row : List Str := ["thing", "many"]
theorem sc_is_row : FnScope N_is_row ["thing", "many"] (defScope s_is_row) := ⟨rfl, rfl, rfl, by decide +kernel, rfl, by decide +kernel, by decide +kernel⟩
def g_is_row : GS := (sRet (eAnd (e1 (gIsi .tuple) (eP 0)) (e2 (gEq false) (aG gLen (aC (eP 0) aN)) (eP 1))))
def f_is_row : FN := runDef 2 g_is_row
theorem ok_is_row {P : Program} {w : World} {K : PySem.W.Frag} {mg : Str → Option Value} {base : Heap} (h : Here K mg "is_row" "is_row" s_is_row ["thing", "many"]) (T : Txt K mg) : Does P w K mg base 1 "is_row" ["thing", "many"] f_is_row :=
  does_of h sc_is_row fun fa cdv A outer s H E F0 α0 hr => ((j_last (j_ret (j_andV (j_isi (T := .tuple) (pe_callB call_isi (by rfl) T.b_isinstance (by decide +kernel) (pa_cons (j_peek 0 (pv 0)) (pa_cons (pe_bltn (by rfl) T.b_tuple (by decide +kernel) rfl) pa_nil)))) (j_one (j_op sp_eq (pe_cmpR (op_eqD hr.units) (vw (j_cb sp_len (pe_callB call_lenJ (by rfl) T.b_len PySem.boot_len (j_acW (j_peek 0 (pv 0)) j_anW)))) (j_peek 1 (pv 1)) (nomark _))))))) : PSs _ _ (tS _ F0 α0 H g_is_row))
abbrev s_is_source : Stmt := top 11
abbrev N_is_source : List Str := ["thing", "name", "language", "compiles", "steady", "uses"]
theorem sc_is_source : FnScope N_is_source ["thing"] (defScope s_is_source) := ⟨rfl, rfl, rfl, by decide +kernel, rfl, by decide +kernel, by decide +kernel⟩
def g_is_source : GS := (sSeq (sIf (tNotJ (tTru (eCall f_is_row (aC (eV 0) (aC (eC (.int 5)) aN))))) (sRet (eC (.bl false))) sNil) (sSeq (sSet (eV 0) (bTup 5 (bCons (bName 1) (bCons (bName 2) (bCons (bName 3) (bCons (bName 4) (bCons (bName 5) bNil))))))) (sSeq (sIf (tOrJ (tNotJ (tTru (eCall f_is_name (aC (eV 1) aN)))) (tNotJ (tTru (eCall f_is_name (aC (eV 2) aN))))) (sRet (eC (.bl false))) sNil) (sRet (eAnd (eCall f_is_set (aC (eV 3) aN)) (eAnd (e1 (gIsi .bool) (eP 4)) (eCall f_is_set (aC (eV 5) aN))))))))
def f_is_source : FN := runDef 6 g_is_source
theorem ok_is_source {P : Program} {w : World} {K : PySem.W.Frag} {mg : Str → Option Value} {base : Heap} (h : Here K mg "is_source" "is_source" s_is_source ["thing"]) (T : Txt K mg) (d_is_row : Does P w K mg base 1 "is_row" ["thing", "many"] f_is_row) (d_is_name : Does P w K mg base 1 "is_name" ["thing"] f_is_name) (d_is_set : Does P w K mg base 3 "is_set" ["thing"] f_is_set) : Does P w K mg base 4 "is_source" ["thing"] f_is_source :=
  does_of h sc_is_source fun fa cdv A outer s H E F0 α0 hr => ((j_seq (j_ifS (j_not (j_tru (vw (j_callD d_is_row hr (by decide) (by rfl) (j_ac (j_var 0 (pv 0)) (j_ac (j_c pe_int (.int 5)) j_an)) (fun ρ S ds S' z => len_2 z) rfl)))) (j_last (j_ret (j_c pe_bl (.bl false)))) j_nil) (j_seq (j_asg (sg_tup (n := 5) (sg_cons (sg_name (i := 1) (vs := [1, 2, 3, 4, 5]) (by decide)) (sg_cons (sg_name (i := 2) (vs := [1, 2, 3, 4, 5]) (by decide)) (sg_cons (sg_name (i := 3) (vs := [1, 2, 3, 4, 5]) (by decide)) (sg_cons (sg_name (i := 4) (vs := [1, 2, 3, 4, 5]) (by decide)) (sg_cons (sg_name (i := 5) (vs := [1, 2, 3, 4, 5]) (by decide)) sg_nil)))))) (ps_asg (j_var 0 (pv 0)) (pg_tup rfl (pgs_cons (pg_name (i := 1) sc_is_source.nd rfl (Or.inl rfl)) (pgs_cons (pg_name (i := 2) sc_is_source.nd rfl (Or.inl rfl)) (pgs_cons (pg_name (i := 3) sc_is_source.nd rfl (Or.inl rfl)) (pgs_cons (pg_name (i := 4) sc_is_source.nd rfl (Or.inl rfl)) (pgs_cons (pg_name (i := 5) sc_is_source.nd rfl (Or.inl rfl)) pgs_nil)))))))) (j_seq (j_ifS (PW.pt (j_or (j_not (j_tru (vw (j_callD d_is_name hr (by decide) (by rfl) (j_ac (j_var 1 (pv 1)) j_an) (fun ρ S ds S' z => len_1 z) rfl)))) (j_or1 (j_not (j_tru (vw (j_callD d_is_name hr (by decide) (by rfl) (j_ac (j_var 2 (pv 2)) j_an) (fun ρ S ds S' z => len_1 z) rfl))))))) (j_last (j_ret (j_c pe_bl (.bl false)))) j_nil) (j_last (j_ret (j_andV (j_callD d_is_set hr (by decide) (by rfl) (j_ac (j_var 3 (pv 3)) j_an) (fun ρ S ds S' z => len_1 z) rfl) (j_andV (j_isi (T := .bool) (pe_callB call_isi (by rfl) T.b_isinstance (by decide +kernel) (pa_cons (j_peek 4 (pv 4)) (pa_cons (pe_bltn (by rfl) T.b_bool (by decide +kernel) rfl) pa_nil)))) (j_one (j_callD d_is_set hr (by decide) (by rfl) (j_ac (j_var 5 (pv 5)) j_an) (fun ρ S ds S' z => len_1 z) rfl))))))))) : PSs _ _ (tS _ F0 α0 H g_is_source))
abbrev s_is_party : Stmt := top 12
abbrev N_is_party : List Str := ["thing"]
theorem sc_is_party : FnScope N_is_party ["thing"] (defScope s_is_party) := ⟨rfl, rfl, rfl, by decide +kernel, rfl, by decide +kernel, by decide +kernel⟩
def g_is_party : GS := (sRet (eAnd (eCall f_is_row (aC (eV 0) (aC (eC (.int 2)) aN))) (eAnd (eCall f_is_name (aC (e2 gIx (eP 0) (eC (.int 0))) aN)) (eAnd (eCall f_is_integer (aC (e2 gIx (eP 0) (eC (.int 1))) aN)) (e2 gGe (e2 gIx (eP 0) (eC (.int 1))) (eC (.int 1)))))))
def f_is_party : FN := runDef 1 g_is_party
theorem ok_is_party {P : Program} {w : World} {K : PySem.W.Frag} {mg : Str → Option Value} {base : Heap} (h : Here K mg "is_party" "is_party" s_is_party ["thing"]) (T : Txt K mg) (d_is_row : Does P w K mg base 1 "is_row" ["thing", "many"] f_is_row) (d_is_name : Does P w K mg base 1 "is_name" ["thing"] f_is_name) (d_is_integer : Does P w K mg base 1 "is_integer" ["thing"] f_is_integer) : Does P w K mg base 2 "is_party" ["thing"] f_is_party :=
  does_of h sc_is_party fun fa cdv A outer s H E F0 α0 hr => ((j_last (j_ret (j_andV (j_callD d_is_row hr (by decide) (by rfl) (j_ac (j_var 0 (pv 0)) (j_ac (j_c pe_int (.int 2)) j_an)) (fun ρ S ds S' z => len_2 z) rfl) (j_andV (j_callD d_is_name hr (by decide) (by rfl) (j_ac (j_op sp_ix (pe_ix ix_seq (j_peek 0 (pv 0)) (vw (j_c pe_int (.int 0))) (fun _ _ => rfl))) j_an) (fun ρ S ds S' z => len_1 z) rfl) (j_andV (j_callD d_is_integer hr (by decide) (by rfl) (j_ac (j_op sp_ix (pe_ix ix_seq (j_peek 0 (pv 0)) (vw (j_c pe_int (.int 1))) (fun _ _ => rfl))) j_an) (fun ρ S ds S' z => len_1 z) rfl) (j_one (j_op sp_ord (pe_cmpR op_geJ (vw (j_op sp_ix (pe_ix ix_seq (j_peek 0 (pv 0)) (vw (j_c pe_int (.int 1))) (fun _ _ => rfl)))) (vw (j_c pe_int (.int 1))) (nomark _))))))))) : PSs _ _ (tS _ F0 α0 H g_is_party))
abbrev s_is_build : Stmt := top 13
abbrev N_is_build : List Str := ["thing", "party", "compiler", "source", "parts", "file"]
theorem sc_is_build : FnScope N_is_build ["thing"] (defScope s_is_build) := ⟨rfl, rfl, rfl, by decide +kernel, rfl, by decide +kernel, by decide +kernel⟩
def g_is_build : GS := (sSeq (sIf (tNotJ (tTru (eCall f_is_row (aC (eV 0) (aC (eC (.int 5)) aN))))) (sRet (eC (.bl false))) sNil) (sSeq (sSet (eV 0) (bTup 5 (bCons (bName 1) (bCons (bName 2) (bCons (bName 3) (bCons (bName 4) (bCons (bName 5) bNil))))))) (sSeq (sIf (tOrJ (tNotJ (tTru (eCall f_is_name (aC (eV 1) aN)))) (tOrJ (tNotJ (tTru (eCall f_is_name (aC (eV 3) aN)))) (tNotJ (tTru (eCall f_is_name (aC (eV 5) aN)))))) (sRet (eC (.bl false))) sNil) (sSeq (sIf (tOf (e2 (gIs false) (eP 2) (eC .non))) (sRet (e2 (gEq false) (eP 4) (eTup aN))) sNil) (sRet (eAnd (eCall f_is_name (aC (eV 2) aN)) (eCall f_is_names (aC (eV 4) aN))))))))
def f_is_build : FN := runDef 6 g_is_build
theorem ok_is_build {P : Program} {w : World} {K : PySem.W.Frag} {mg : Str → Option Value} {base : Heap} (h : Here K mg "is_build" "is_build" s_is_build ["thing"]) (T : Txt K mg) (d_is_row : Does P w K mg base 1 "is_row" ["thing", "many"] f_is_row) (d_is_name : Does P w K mg base 1 "is_name" ["thing"] f_is_name) (d_is_names : Does P w K mg base 2 "is_names" ["thing"] f_is_names) : Does P w K mg base 3 "is_build" ["thing"] f_is_build :=
  does_of h sc_is_build fun fa cdv A outer s H E F0 α0 hr => ((j_seq (j_ifS (j_not (j_tru (vw (j_callD d_is_row hr (by decide) (by rfl) (j_ac (j_var 0 (pv 0)) (j_ac (j_c pe_int (.int 5)) j_an)) (fun ρ S ds S' z => len_2 z) rfl)))) (j_last (j_ret (j_c pe_bl (.bl false)))) j_nil) (j_seq (j_asg (sg_tup (n := 5) (sg_cons (sg_name (i := 1) (vs := [1, 2, 3, 4, 5]) (by decide)) (sg_cons (sg_name (i := 2) (vs := [1, 2, 3, 4, 5]) (by decide)) (sg_cons (sg_name (i := 3) (vs := [1, 2, 3, 4, 5]) (by decide)) (sg_cons (sg_name (i := 4) (vs := [1, 2, 3, 4, 5]) (by decide)) (sg_cons (sg_name (i := 5) (vs := [1, 2, 3, 4, 5]) (by decide)) sg_nil)))))) (ps_asg (j_var 0 (pv 0)) (pg_tup rfl (pgs_cons (pg_name (i := 1) sc_is_build.nd rfl (Or.inl rfl)) (pgs_cons (pg_name (i := 2) sc_is_build.nd rfl (Or.inl rfl)) (pgs_cons (pg_name (i := 3) sc_is_build.nd rfl (Or.inl rfl)) (pgs_cons (pg_name (i := 4) sc_is_build.nd rfl (Or.inl rfl)) (pgs_cons (pg_name (i := 5) sc_is_build.nd rfl (Or.inl rfl)) pgs_nil)))))))) (j_seq (j_ifS (PW.pt (j_or (j_not (j_tru (vw (j_callD d_is_name hr (by decide) (by rfl) (j_ac (j_var 1 (pv 1)) j_an) (fun ρ S ds S' z => len_1 z) rfl)))) (j_or (j_not (j_tru (vw (j_callD d_is_name hr (by decide) (by rfl) (j_ac (j_var 3 (pv 3)) j_an) (fun ρ S ds S' z => len_1 z) rfl)))) (j_or1 (j_not (j_tru (vw (j_callD d_is_name hr (by decide) (by rfl) (j_ac (j_var 5 (pv 5)) j_an) (fun ρ S ds S' z => len_1 z) rfl)))))))) (j_last (j_ret (j_c pe_bl (.bl false)))) j_nil) (j_seq (j_ifS (j_cmpT sp_is (pt_cmpR op_isN (j_peek 2 (pv 2)) (vw (j_c pe_non .non)) (nomark _))) (j_last (j_ret (j_op sp_eq (pe_cmpR (op_eqD hr.units) (j_peek 4 (pv 4)) (vw (j_tup j_an)) (nomark _))))) j_nil) (j_last (j_ret (j_andV (j_callD d_is_name hr (by decide) (by rfl) (j_ac (j_var 2 (pv 2)) j_an) (fun ρ S ds S' z => len_1 z) rfl) (j_one (j_callD d_is_names hr (by decide) (by rfl) (j_ac (j_var 4 (pv 4)) j_an) (fun ρ S ds S' z => len_1 z) rfl))))))))) : PSs _ _ (tS _ F0 α0 H g_is_build))
abbrev s_is_fact : Stmt := top 14
abbrev N_is_fact : List Str := ["thing"]
theorem sc_is_fact : FnScope N_is_fact ["thing"] (defScope s_is_fact) := ⟨rfl, rfl, rfl, by decide +kernel, rfl, by decide +kernel, by decide +kernel⟩
def g_is_fact : GS := (sRet (eAnd (eCall f_is_row (aC (eV 0) (aC (eC (.int 2)) aN))) (eAnd (eCall f_is_name (aC (e2 gIx (eP 0) (eC (.int 0))) aN)) (eCall f_is_name (aC (e2 gIx (eP 0) (eC (.int 1))) aN)))))
def f_is_fact : FN := runDef 1 g_is_fact
theorem ok_is_fact {P : Program} {w : World} {K : PySem.W.Frag} {mg : Str → Option Value} {base : Heap} (h : Here K mg "is_fact" "is_fact" s_is_fact ["thing"]) (T : Txt K mg) (d_is_row : Does P w K mg base 1 "is_row" ["thing", "many"] f_is_row) (d_is_name : Does P w K mg base 1 "is_name" ["thing"] f_is_name) : Does P w K mg base 2 "is_fact" ["thing"] f_is_fact :=
  does_of h sc_is_fact fun fa cdv A outer s H E F0 α0 hr => ((j_last (j_ret (j_andV (j_callD d_is_row hr (by decide) (by rfl) (j_ac (j_var 0 (pv 0)) (j_ac (j_c pe_int (.int 2)) j_an)) (fun ρ S ds S' z => len_2 z) rfl) (j_andV (j_callD d_is_name hr (by decide) (by rfl) (j_ac (j_op sp_ix (pe_ix ix_seq (j_peek 0 (pv 0)) (vw (j_c pe_int (.int 0))) (fun _ _ => rfl))) j_an) (fun ρ S ds S' z => len_1 z) rfl) (j_one (j_callD d_is_name hr (by decide) (by rfl) (j_ac (j_op sp_ix (pe_ix ix_seq (j_peek 0 (pv 0)) (vw (j_c pe_int (.int 1))) (fun _ _ => rfl))) j_an) (fun ρ S ds S' z => len_1 z) rfl)))))) : PSs _ _ (tS _ F0 α0 H g_is_fact))
abbrev s_is_book : Stmt := top 15
abbrev N_is_book : List Str := ["thing", "sources", "parties", "unlike", "builds", "part", "row"]
theorem sc_is_book : FnScope N_is_book ["thing"] (defScope s_is_book) := ⟨rfl, rfl, rfl, by decide +kernel, rfl, by decide +kernel, by decide +kernel⟩
def g_is_book : GS := (sSeq (sIf (tOrJ (tNotJ (tTru (eCall f_is_row (aC (eV 0) (aC (eC (.int 4)) aN))))) (tNotJ (tTru (aG gAll (aC (eL (lComp [5] (iOf (eP 0)) (bName 5) cYes (e1 (gIsi .tuple) (eP 5)))) aN))))) (sRet (eC (.bl false))) sNil) (sSeq (sSet (eV 0) (bTup 4 (bCons (bName 1) (bCons (bName 2) (bCons (bName 3) (bCons (bName 4) bNil)))))) (sSeq (sIf (tOrJ (tNotJ (tTru (aG gAll (aC (eL (lComp [6] (iOf (eP 1)) (bName 6) cYes (eCall f_is_source (aC (eV 6) aN)))) aN)))) (tNotJ (tTru (aG gAll (aC (eL (lComp [6] (iOf (eP 2)) (bName 6) cYes (eCall f_is_party (aC (eV 6) aN)))) aN))))) (sRet (eC (.bl false))) sNil) (sRet (eAnd (aG gAll (aC (eL (lComp [6] (iOf (eP 3)) (bName 6) cYes (eCall f_is_fact (aC (eV 6) aN)))) aN)) (aG gAll (aC (eL (lComp [6] (iOf (eP 4)) (bName 6) cYes (eCall f_is_build (aC (eV 6) aN)))) aN)))))))
def f_is_book : FN := runDef 7 g_is_book
theorem ok_is_book {P : Program} {w : World} {K : PySem.W.Frag} {mg : Str → Option Value} {base : Heap} (h : Here K mg "is_book" "is_book" s_is_book ["thing"]) (T : Txt K mg) (d_is_row : Does P w K mg base 1 "is_row" ["thing", "many"] f_is_row) (d_is_source : Does P w K mg base 4 "is_source" ["thing"] f_is_source) (d_is_party : Does P w K mg base 2 "is_party" ["thing"] f_is_party) (d_is_fact : Does P w K mg base 2 "is_fact" ["thing"] f_is_fact) (d_is_build : Does P w K mg base 3 "is_build" ["thing"] f_is_build) : Does P w K mg base 5 "is_book" ["thing"] f_is_book :=
  does_of h sc_is_book fun fa cdv A outer s H E F0 α0 hr => ((j_seq (j_ifS (PW.pt (j_or (j_not (j_tru (vw (j_callD d_is_row hr (by decide) (by rfl) (j_ac (j_var 0 (pv 0)) (j_ac (j_c pe_int (.int 4)) j_an)) (fun ρ S ds S' z => len_2 z) rfl)))) (j_or1 (j_not (j_tru (vw (j_cb sp_all (pe_callB (cr_all rfl) (by rfl) T.b_all (by decide +kernel) (j_acW (lw (j_comp (sg_name (i := 5) (vs := [5]) (by decide)) (pe_lc (own := [("part", 5)]) (g := (gName 5)) (tt := tT _ cYes) (te := tV _ (e1 (gIsi .tuple) (eP 5))) (by rfl) sc_is_book.nd (j_itW (j_peek 0 (pv 0))) (blkOk_by (own := [("part", 5)]) (N := N_is_book) (sc := (defScope s_is_book)) (by decide +kernel)) (fun _ _ _ _ _ => (pg_name (i := 5) sc_is_book.nd rfl (Or.inl rfl))) (fun _ _ _ _ _ => j_yes) (fun _ _ _ _ _ => (j_isi (T := .tuple) (pe_callB call_isi (by rfl) T.b_isinstance (by decide +kernel) (pa_cons (j_peek 5 (pv 5)) (pa_cons (pe_bltn (by rfl) T.b_tuple (by decide +kernel) rfl) pa_nil)))))))) j_anW))))))))) (j_last (j_ret (j_c pe_bl (.bl false)))) j_nil) (j_seq (j_asg (sg_tup (n := 4) (sg_cons (sg_name (i := 1) (vs := [1, 2, 3, 4]) (by decide)) (sg_cons (sg_name (i := 2) (vs := [1, 2, 3, 4]) (by decide)) (sg_cons (sg_name (i := 3) (vs := [1, 2, 3, 4]) (by decide)) (sg_cons (sg_name (i := 4) (vs := [1, 2, 3, 4]) (by decide)) sg_nil))))) (ps_asg (j_var 0 (pv 0)) (pg_tup rfl (pgs_cons (pg_name (i := 1) sc_is_book.nd rfl (Or.inl rfl)) (pgs_cons (pg_name (i := 2) sc_is_book.nd rfl (Or.inl rfl)) (pgs_cons (pg_name (i := 3) sc_is_book.nd rfl (Or.inl rfl)) (pgs_cons (pg_name (i := 4) sc_is_book.nd rfl (Or.inl rfl)) pgs_nil))))))) (j_seq (j_ifS (PW.pt (j_or (j_not (j_tru (vw (j_cb sp_all (pe_callB (cr_all rfl) (by rfl) T.b_all (by decide +kernel) (j_acW (lw (j_comp (sg_name (i := 6) (vs := [6]) (by decide)) (pe_lc (own := [("row", 6)]) (g := (gName 6)) (tt := tT _ cYes) (te := tV _ (eCall f_is_source (aC (eV 6) aN))) (by rfl) sc_is_book.nd (j_itW (j_peek 1 (pv 1))) (blkOk_by (own := [("row", 6)]) (N := N_is_book) (sc := (defScope s_is_book)) (by decide +kernel)) (fun _ _ _ _ _ => (pg_name (i := 6) sc_is_book.nd rfl (Or.inl rfl))) (fun _ _ _ _ _ => j_yes) (fun _ _ _ _ _ => (j_callD d_is_source hr (by decide) (by rfl) (j_ac (j_var 6 (pv 6)) j_an) (fun ρ S ds S' z => len_1 z) rfl))))) j_anW)))))) (j_or1 (j_not (j_tru (vw (j_cb sp_all (pe_callB (cr_all rfl) (by rfl) T.b_all (by decide +kernel) (j_acW (lw (j_comp (sg_name (i := 6) (vs := [6]) (by decide)) (pe_lc (own := [("row", 6)]) (g := (gName 6)) (tt := tT _ cYes) (te := tV _ (eCall f_is_party (aC (eV 6) aN))) (by rfl) sc_is_book.nd (j_itW (j_peek 2 (pv 2))) (blkOk_by (own := [("row", 6)]) (N := N_is_book) (sc := (defScope s_is_book)) (by decide +kernel)) (fun _ _ _ _ _ => (pg_name (i := 6) sc_is_book.nd rfl (Or.inl rfl))) (fun _ _ _ _ _ => j_yes) (fun _ _ _ _ _ => (j_callD d_is_party hr (by decide) (by rfl) (j_ac (j_var 6 (pv 6)) j_an) (fun ρ S ds S' z => len_1 z) rfl))))) j_anW))))))))) (j_last (j_ret (j_c pe_bl (.bl false)))) j_nil) (j_last (j_ret (j_andV (j_cb sp_all (pe_callB (cr_all rfl) (by rfl) T.b_all (by decide +kernel) (j_acW (lw (j_comp (sg_name (i := 6) (vs := [6]) (by decide)) (pe_lc (own := [("row", 6)]) (g := (gName 6)) (tt := tT _ cYes) (te := tV _ (eCall f_is_fact (aC (eV 6) aN))) (by rfl) sc_is_book.nd (j_itW (j_peek 3 (pv 3))) (blkOk_by (own := [("row", 6)]) (N := N_is_book) (sc := (defScope s_is_book)) (by decide +kernel)) (fun _ _ _ _ _ => (pg_name (i := 6) sc_is_book.nd rfl (Or.inl rfl))) (fun _ _ _ _ _ => j_yes) (fun _ _ _ _ _ => (j_callD d_is_fact hr (by decide) (by rfl) (j_ac (j_var 6 (pv 6)) j_an) (fun ρ S ds S' z => len_1 z) rfl))))) j_anW))) (j_one (j_cb sp_all (pe_callB (cr_all rfl) (by rfl) T.b_all (by decide +kernel) (j_acW (lw (j_comp (sg_name (i := 6) (vs := [6]) (by decide)) (pe_lc (own := [("row", 6)]) (g := (gName 6)) (tt := tT _ cYes) (te := tV _ (eCall f_is_build (aC (eV 6) aN))) (by rfl) sc_is_book.nd (j_itW (j_peek 4 (pv 4))) (blkOk_by (own := [("row", 6)]) (N := N_is_book) (sc := (defScope s_is_book)) (by decide +kernel)) (fun _ _ _ _ _ => (pg_name (i := 6) sc_is_book.nd rfl (Or.inl rfl))) (fun _ _ _ _ _ => j_yes) (fun _ _ _ _ _ => (j_callD d_is_build hr (by decide) (by rfl) (j_ac (j_var 6 (pv 6)) j_an) (fun ρ S ds S' z => len_1 z) rfl))))) j_anW)))))))))) : PSs _ _ (tS _ F0 α0 H g_is_book))
abbrev s__law_feed : Stmt := top 17
abbrev N__law_feed : List Str := ["_law_script", "_law_cell"]
theorem sc__law_feed : FnScope N__law_feed ["_law_script"] (defScope s__law_feed) := ⟨rfl, rfl, rfl, by decide +kernel, rfl, by decide +kernel, by decide +kernel⟩
def g__law_feed : GS := (sRet (eDict [(("cells" : Str), (eL (lComp [1] (iOf (eSl (eP 0) oN (oS (eC (.int 63))))) (bName 1) cYes (aG gInt (aC (eP 1) aN))))), (("next" : Str), (eC (.int 0))), (("left" : Str), (eC (.int 0))), (("count" : Str), (eC (.int 0)))]))
def f__law_feed : FN := runDef 2 g__law_feed
theorem ok__law_feed {P : Program} {w : World} {K : PySem.W.Frag} {mg : Str → Option Value} {base : Heap} (h : Here K mg "_law_feed" "_law_feed" s__law_feed ["_law_script"]) (T : Txt K mg) : Does P w K mg base 1 "_law_feed" ["_law_script"] f__law_feed :=
  does_of h sc__law_feed fun fa cdv A outer s H E F0 α0 hr => ((j_last (j_ret (j_dict (pe_disp (pps_cons pe_str (lv (j_comp (sg_name (i := 1) (vs := [1]) (by decide)) (pe_lc (own := [("_law_cell", 1)]) (g := (gName 1)) (tt := tT _ cYes) (te := tV _ (aG gInt (aC (eP 1) aN))) (by rfl) sc__law_feed.nd (j_itW (vw (j_sl (j_peek 0 (pv 0)) j_oN (j_oS (j_c pe_int (.int 63)))))) (blkOk_by (own := [("_law_cell", 1)]) (N := N__law_feed) (sc := (defScope s__law_feed)) (by decide +kernel)) (fun _ _ _ _ _ => (pg_name (i := 1) sc__law_feed.nd rfl (Or.inl rfl))) (fun _ _ _ _ _ => j_yes) (fun _ _ _ _ _ => (j_cb sp_int (pe_callTy call_int1 (by rfl) T.b_int (by decide +kernel) (j_acW (j_peek 1 (pv 1)) j_anW))))))) (pps_cons pe_str (j_c pe_int (.int 0)) (pps_cons pe_str (j_c pe_int (.int 0)) (pps_cons pe_str (j_c pe_int (.int 0)) pps_nil)))) (by rfl) (by rfl) (fun z => by cases z) (by decide)) (by decide +kernel) (by decide)))) : PSs _ _ (tS _ F0 α0 H g__law_feed))
abbrev s__law_draw : Stmt := top 18
abbrev N__law_draw : List Str := ["_law_feed_here", "_law_many", "_law_digit", "_law_cells", "_law_spot", "_law_cell", "_law_mixed"]
theorem sc__law_draw : FnScope N__law_draw ["_law_feed_here", "_law_many"] (defScope s__law_draw) := ⟨rfl, rfl, rfl, by decide +kernel, rfl, by decide +kernel, by decide +kernel⟩
def g__law_draw : GS := (sSeq (sPut (eP 0) (eC (.str ("count" : Str))) (e2 gAdd (eGet (eP 0) (eC (.str ("count" : Str)))) (eC (.int 1)))) (sSeq (sIf (tOf (e2 gGt (eGet (eP 0) (eC (.str ("left" : Str)))) (eC (.int 0)))) (sSeq (sSet (e2 (gI CPos fun i j => i % j) (aG gInt (aC (eGet (eP 0) (eC (.str ("left" : Str)))) aN)) (eP 1)) (bName 2)) (sSeq (sPut (eP 0) (eC (.str ("left" : Str))) (e2 (gI CDivW fun i j => i / j) (eGet (eP 0) (eC (.str ("left" : Str)))) (eP 1))) (sRet (eV 2)))) sNil) (sSeq (sPar [3, 4] (mD (eGet (eP 0) (eC (.str ("cells" : Str)))) (mD (eGet (eP 0) (eC (.str ("next" : Str)))) mN))) (sSeq (sPut (eP 0) (eC (.str ("next" : Str))) (e2 gAdd (eP 4) (eC (.int 1)))) (sSeq (sSet (eIf (tOf (e2 (gEq true) (eP 3) (eL (lDisp aN)))) (e2 gIx (eP 3) (e2 (gI CPos fun i j => i % j) (aG gInt (aC (eP 4) aN)) (aG gLen (aC (eP 3) aN)))) (eC (.int 31847))) (bName 5)) (sSeq (sIf (tAndJ (tOf (e2 gGe (eP 5) (e2 (gI CPow fun i j => i ^ j.toNat) (eC (.int 10)) (eC (.int 18))))) (tOf (e2 gLt (eP 4) (aG gLen (aC (eP 3) aN))))) (sSeq (sPut (eP 0) (eC (.str ("left" : Str))) (e2 (gI CDivW fun i j => i / j) (eP 5) (eP 1))) (sRet (e2 (gI CPos fun i j => i % j) (aG gInt (aC (eP 5) aN)) (eP 1)))) sNil) (sSeq (sSet (e2 (gI CPos fun i j => i % j) (aG gInt (aC (e2 gAdd (e2 gAdd (e2 (gI CPos fun i j => i % j) (aG gInt (aC (eP 5) aN)) (eC (.int 2147483629))) (e2 (gI CMulW fun i j => i * j) (eC (.int 48271)) (eGet (eP 0) (eC (.str ("count" : Str)))))) (eC (.int 11))) aN)) (eC (.int 2147483587))) (bName 6)) (sSeq (sSet (e2 (gI CPos fun i j => i % j) (aG gInt (aC (e2 gAdd (e2 gAdd (e2 (gI CMulW fun i j => i * j) (eP 6) (eP 6)) (e2 (gI CMulW fun i j => i * j) (eC (.int 69621)) (eGet (eP 0) (eC (.str ("count" : Str)))))) (eC (.int 5))) aN)) (eC (.int 2147483563))) (bName 6)) (sSeq (sSet (e2 (gI CPos fun i j => i % j) (aG gInt (aC (e2 gAdd (e2 (gI CMulW fun i j => i * j) (eP 6) (eP 6)) (e2 (gI CMulW fun i j => i * j) (eC (.int 40692)) (eP 6))) aN)) (eC (.int 2147483549))) (bName 6)) (sRet (e2 (gI CPos fun i j => i % j) (aG gInt (aC (e2 (gI CDivW fun i j => i / j) (eP 6) (eC (.int 64))) aN)) (eP 1))))))))))))
def f__law_draw : FN := runDef 7 g__law_draw
theorem ok__law_draw {P : Program} {w : World} {K : PySem.W.Frag} {mg : Str → Option Value} {base : Heap} (h : Here K mg "_law_draw" "_law_draw" s__law_draw ["_law_feed_here", "_law_many"]) (T : Txt K mg) : Does P w K mg base 1 "_law_draw" ["_law_feed_here", "_law_many"] f__law_draw :=
  does_of h sc__law_draw fun fa cdv A outer s H E F0 α0 hr => ((j_seq (j_put (ps_dput (hu_of hr) (j_peek 0 (pv 0)) (vw (j_c pe_str (.str ("count" : Str)))) (j_op sp_add (pe_op op_addJ (vw (j_get (pe_dget (hu_of hr) (j_peek 0 (pv 0)) (vw (j_c pe_str (.str ("count" : Str)))) (fun _ _ => rfl)))) (vw (j_c pe_int (.int 1))))) rfl)) (j_seq (j_ifS (j_cmpT sp_gt (pt_cmpR op_gtJ (vw (j_get (pe_dget (hu_of hr) (j_peek 0 (pv 0)) (vw (j_c pe_str (.str ("left" : Str)))) (fun _ _ => rfl)))) (vw (j_c pe_int (.int 0))) (nomark _))) (j_seq (j_asg (sg_name (i := 2) (vs := [2]) (by decide)) (ps_set (i := 2) sc__law_draw.nd rfl (Or.inl rfl) (j_op (sp_I (C := CPos)) (pe_op op_mod (vw (j_cb sp_int (pe_callTy call_int1 (by rfl) T.b_int (by decide +kernel) (j_acW (vw (j_get (pe_dget (hu_of hr) (j_peek 0 (pv 0)) (vw (j_c pe_str (.str ("left" : Str)))) (fun _ _ => rfl)))) j_anW)))) (j_peek 1 (pv 1)))))) (j_seq (j_put (ps_dput (hu_of hr) (j_peek 0 (pv 0)) (vw (j_c pe_str (.str ("left" : Str)))) (j_op sp_I (pe_op op_fdivW (vw (j_get (pe_dget (hu_of hr) (j_peek 0 (pv 0)) (vw (j_c pe_str (.str ("left" : Str)))) (fun _ _ => rfl)))) (j_peek 1 (pv 1)))) rfl)) (j_last (j_ret (j_var 2 (pv 2)))))) j_nil) (j_seq (j_par2 (ps_par (i := 3) (j := 4) (by rfl) sc__law_draw.nd rfl rfl (by decide) rfl rfl (j_md (j_get (pe_dget (hu_of hr) (j_peek 0 (pv 0)) (vw (j_c pe_str (.str ("cells" : Str)))) (fun _ _ => rfl))) (j_md (j_get (pe_dget (hu_of hr) (j_peek 0 (pv 0)) (vw (j_c pe_str (.str ("next" : Str)))) (fun _ _ => rfl))) j_mn)) (by rfl))) (j_seq (j_put (ps_dput (hu_of hr) (j_peek 0 (pv 0)) (vw (j_c pe_str (.str ("next" : Str)))) (j_op sp_add (pe_op op_addJ (j_peek 4 (pv 4)) (vw (j_c pe_int (.int 1))))) rfl)) (j_seq (j_asg (sg_name (i := 5) (vs := [5]) (by decide)) (ps_set (i := 5) sc__law_draw.nd rfl (Or.inl rfl) (j_if (j_cmpT sp_ne (pt_cmpR (op_neD hr.units) (j_peek 3 (pv 3)) (lw (j_disp j_an)) (nomark _))) (j_op sp_ix (pe_ix ix_seq (j_peek 3 (pv 3)) (vw (j_op (sp_I (C := CPos)) (pe_op op_mod (vw (j_cb sp_int (pe_callTy call_int1 (by rfl) T.b_int (by decide +kernel) (j_acW (j_peek 4 (pv 4)) j_anW)))) (vw (j_cb sp_len (pe_callB call_lenJ (by rfl) T.b_len PySem.boot_len (j_acW (j_peek 3 (pv 3)) j_anW))))))) (fun _ _ => rfl))) (j_c pe_int (.int 31847))))) (j_seq (j_ifS (PW.pt (j_and (j_cmpT sp_ord (pt_cmpR op_geJ (j_peek 5 (pv 5)) (vw (j_op sp_I (pe_op op_pow (vw (j_c pe_int (.int 10))) (vw (j_c pe_int (.int 18)))))) (nomark _))) (j_and1 (j_cmpT sp_lt (pt_cmpR (op_ltJ hr.units0) (j_peek 4 (pv 4)) (vw (j_cb sp_len (pe_callB call_lenJ (by rfl) T.b_len PySem.boot_len (j_acW (j_peek 3 (pv 3)) j_anW)))) (nomark _)))))) (j_seq (j_put (ps_dput (hu_of hr) (j_peek 0 (pv 0)) (vw (j_c pe_str (.str ("left" : Str)))) (j_op sp_I (pe_op op_fdivW (j_peek 5 (pv 5)) (j_peek 1 (pv 1)))) rfl)) (j_last (j_ret (j_op (sp_I (C := CPos)) (pe_op op_mod (vw (j_cb sp_int (pe_callTy call_int1 (by rfl) T.b_int (by decide +kernel) (j_acW (j_peek 5 (pv 5)) j_anW)))) (j_peek 1 (pv 1))))))) j_nil) (j_seq (j_asg (sg_name (i := 6) (vs := [6]) (by decide)) (ps_set (i := 6) sc__law_draw.nd rfl (Or.inl rfl) (j_op (sp_I (C := CPos)) (pe_op op_mod (vw (j_cb sp_int (pe_callTy call_int1 (by rfl) T.b_int (by decide +kernel) (j_acW (vw (j_op sp_add (pe_op op_addJ (vw (j_op sp_add (pe_op op_addJ (vw (j_op (sp_I (C := CPos)) (pe_op op_mod (vw (j_cb sp_int (pe_callTy call_int1 (by rfl) T.b_int (by decide +kernel) (j_acW (j_peek 5 (pv 5)) j_anW)))) (vw (j_c pe_int (.int 2147483629)))))) (vw (j_op sp_I (pe_op op_mulW (vw (j_c pe_int (.int 48271))) (vw (j_get (pe_dget (hu_of hr) (j_peek 0 (pv 0)) (vw (j_c pe_str (.str ("count" : Str)))) (fun _ _ => rfl)))))))))) (vw (j_c pe_int (.int 11)))))) j_anW)))) (vw (j_c pe_int (.int 2147483587))))))) (j_seq (j_asg (sg_name (i := 6) (vs := [6]) (by decide)) (ps_set (i := 6) sc__law_draw.nd rfl (Or.inl rfl) (j_op (sp_I (C := CPos)) (pe_op op_mod (vw (j_cb sp_int (pe_callTy call_int1 (by rfl) T.b_int (by decide +kernel) (j_acW (vw (j_op sp_add (pe_op op_addJ (vw (j_op sp_add (pe_op op_addJ (vw (j_op sp_I (pe_op op_mulW (j_peek 6 (pv 6)) (j_peek 6 (pv 6))))) (vw (j_op sp_I (pe_op op_mulW (vw (j_c pe_int (.int 69621))) (vw (j_get (pe_dget (hu_of hr) (j_peek 0 (pv 0)) (vw (j_c pe_str (.str ("count" : Str)))) (fun _ _ => rfl)))))))))) (vw (j_c pe_int (.int 5)))))) j_anW)))) (vw (j_c pe_int (.int 2147483563))))))) (j_seq (j_asg (sg_name (i := 6) (vs := [6]) (by decide)) (ps_set (i := 6) sc__law_draw.nd rfl (Or.inl rfl) (j_op (sp_I (C := CPos)) (pe_op op_mod (vw (j_cb sp_int (pe_callTy call_int1 (by rfl) T.b_int (by decide +kernel) (j_acW (vw (j_op sp_add (pe_op op_addJ (vw (j_op sp_I (pe_op op_mulW (j_peek 6 (pv 6)) (j_peek 6 (pv 6))))) (vw (j_op sp_I (pe_op op_mulW (vw (j_c pe_int (.int 40692))) (j_peek 6 (pv 6)))))))) j_anW)))) (vw (j_c pe_int (.int 2147483549))))))) (j_last (j_ret (j_op (sp_I (C := CPos)) (pe_op op_mod (vw (j_cb sp_int (pe_callTy call_int1 (by rfl) T.b_int (by decide +kernel) (j_acW (vw (j_op sp_I (pe_op op_fdivW (j_peek 6 (pv 6)) (vw (j_c pe_int (.int 64)))))) j_anW)))) (j_peek 1 (pv 1))))))))))))))) : PSs _ _ (tS _ F0 α0 H g__law_draw))
abbrev s__law_pick : Stmt := top 19
abbrev N__law_pick : List Str := ["_law_feed_here", "_law_things"]
theorem sc__law_pick : FnScope N__law_pick ["_law_feed_here", "_law_things"] (defScope s__law_pick) := ⟨rfl, rfl, rfl, by decide +kernel, rfl, by decide +kernel, by decide +kernel⟩
def g__law_pick : GS := (sRet (e2 gIx (eP 1) (eCall f__law_draw (aC (eV 0) (aC (aG gLen (aC (eP 1) aN)) aN)))))
def f__law_pick : FN := runDef 2 g__law_pick
theorem ok__law_pick {P : Program} {w : World} {K : PySem.W.Frag} {mg : Str → Option Value} {base : Heap} (h : Here K mg "_law_pick" "_law_pick" s__law_pick ["_law_feed_here", "_law_things"]) (T : Txt K mg) (d__law_draw : Does P w K mg base 1 "_law_draw" ["_law_feed_here", "_law_many"] f__law_draw) : Does P w K mg base 2 "_law_pick" ["_law_feed_here", "_law_things"] f__law_pick :=
  does_of h sc__law_pick fun fa cdv A outer s H E F0 α0 hr => ((j_last (j_ret (j_op sp_ix (pe_ix ix_seq (j_peek 1 (pv 1)) (vw (j_callD d__law_draw hr (by decide) (by rfl) (j_ac (j_var 0 (pv 0)) (j_ac (j_cb sp_len (pe_callB call_lenJ (by rfl) T.b_len PySem.boot_len (j_acW (j_peek 1 (pv 1)) j_anW))) j_an)) (fun ρ S ds S' z => len_2 z) rfl)) (fun _ _ => rfl))))) : PSs _ _ (tS _ F0 α0 H g__law_pick))
abbrev s__law_names : Stmt := top 20
abbrev N__law_names : List Str := ["_law_feed_here", "_law_many", "_law_signs", "_law_words", "_law_way", "_law_size", "_law_found", "_law_stem", "_law_cut", "_law_lap", "_law_name", "_law_more", "_law_k", "_law_sign"]
theorem sc__law_names : FnScope N__law_names ["_law_feed_here", "_law_many"] (defScope s__law_names) := ⟨rfl, rfl, rfl, by decide +kernel, rfl, by decide +kernel, by decide +kernel⟩
def g__law_names : GS := (sSeq (sSet (eC (.str ("abcdefghijklmnopqrstuvwxyz0123456789" : Str))) (bName 2)) (sSeq (sSetL 3 (lDisp (aC (eC (.str ("source" : Str))) (aC (eC (.str ("party" : Str))) (aC (eC (.str ("unlike" : Str))) (aC (eC (.str ("build" : Str))) (aC (eC (.str ("steady" : Str))) (aC (eC (.str ("loose" : Str))) (aC (eC (.str ("n0" : Str))) (aC (eC (.str ("n10" : Str))) (aC (eC (.str ("n9" : Str))) aN))))))))))) (sSeq (sExt 3 (eL (lDisp (aC (eC (.str ("a" : Str))) (aC (eC (.str ("ab" : Str))) (aC (eC (.str ("abc" : Str))) (aC (eC (.str ("a0" : Str))) (aC (eC (.str ("z9" : Str))) aN)))))))) (sSeq (sPar [4, 5, 6] (mD (eCall f__law_draw (aC (eV 0) (aC (eC (.int 3)) aN))) (mD (eCall f__law_draw (aC (eV 0) (aC (eC (.int 7)) aN))) (mO (lDisp aN) mN)))) (sSeq (sSet (e2 gAdd (e2 gIx (eP 2) (eCall f__law_draw (aC (eV 0) (aC (eC (.int 26)) aN)))) (e2 gJoin (eC (.str ("" : Str))) (eL (lComp [9] (iRg1 (aC (eP 5) aN)) (bName 9) cYes (eCall f__law_pick (aC (eV 0) (aC (eV 2) aN))))))) (bName 7)) (sSeq (sSet (e2 gAdd (eC (.int 1)) (eCall f__law_draw (aC (eV 0) (aC (e2 gAdd (eP 5) (eC (.int 1))) aN)))) (bName 8)) (sSeq (sFor (iRg1 (aC (eP 1) aN)) (bName 9) (sSeq (sSet (e2 gAdd (e2 gAdd (eSl (eP 7) oN (oS (eV 8))) (eCall f__law_pick (aC (eV 0) (aC (eV 2) aN)))) (eSl (eP 7) (oS (eV 8)) oN)) (bName 10)) (sSeq (sIf (tOf (e2 (gEq false) (eP 4) (eC (.int 1)))) (sFreeze 3 (sSet (eCall f__law_pick (aC (eV 0) (aC (eV 3) aN))) (bName 10))) sNil) (sSeq (sIf (tOf (e2 (gEq false) (eP 4) (eC (.int 2)))) (sSeq (sSet (eL (lComp [12] (iRg1 (aC (eCall f__law_draw (aC (eV 0) (aC (eC (.int 8)) aN))) aN)) (bName 12) cYes (eCall f__law_pick (aC (eV 0) (aC (eV 2) aN))))) (bName 11)) (sSet (e2 gAdd (e2 gIx (eP 2) (eCall f__law_draw (aC (eV 0) (aC (eC (.int 26)) aN)))) (e2 gJoin (eC (.str ("" : Str))) (eP 11))) (bName 10))) sNil) (sSeq (sIf (tOf (e2 (gIn false) (eP 10) (eP 6))) (sSet (e2 gIx (eL (lComp [13] (iOf (eSl (eP 2) oN (oS (eC (.int 26))))) (bName 13) (tOf (e2 (gIn true) (eP 13) (eP 6))) (eV 13))) (eC (.int 0))) (bName 10)) sNil) (sApp 6 (eV 10))))))) (sFreeze 6 (sRet (eV 6))))))))))
def f__law_names : FN := runDef 14 g__law_names
theorem ok__law_names {P : Program} {w : World} {K : PySem.W.Frag} {mg : Str → Option Value} {base : Heap} (h : Here K mg "_law_names" "_law_names" s__law_names ["_law_feed_here", "_law_many"]) (T : Txt K mg) (d__law_draw : Does P w K mg base 1 "_law_draw" ["_law_feed_here", "_law_many"] f__law_draw) (d__law_pick : Does P w K mg base 2 "_law_pick" ["_law_feed_here", "_law_things"] f__law_pick) : Does P w K mg base 3 "_law_names" ["_law_feed_here", "_law_many"] f__law_names :=
  does_of h sc__law_names fun fa cdv A outer s H E F0 α0 hr => ((j_seq (j_asg (sg_name (i := 2) (vs := [2]) (by decide)) (ps_set (i := 2) sc__law_names.nd rfl (Or.inr rfl) (j_c pe_str (.str ("abcdefghijklmnopqrstuvwxyz0123456789" : Str))))) (j_seq (j_setL (ps_set (i := 3) sc__law_names.nd rfl (Or.inl rfl) (j_disp (j_ac (j_c pe_str (.str ("source" : Str))) (j_ac (j_c pe_str (.str ("party" : Str))) (j_ac (j_c pe_str (.str ("unlike" : Str))) (j_ac (j_c pe_str (.str ("build" : Str))) (j_ac (j_c pe_str (.str ("steady" : Str))) (j_ac (j_c pe_str (.str ("loose" : Str))) (j_ac (j_c pe_str (.str ("n0" : Str))) (j_ac (j_c pe_str (.str ("n10" : Str))) (j_ac (j_c pe_str (.str ("n9" : Str))) j_an)))))))))))) (j_seq (j_ext (ps_expr (pe_bm PySem.F.plainAttrs_list PySem.F.slot_list_extend PySem.F.type_list_extend mt_extend (pv 3) (pa_cons (lw (j_disp (j_ac (j_c pe_str (.str ("a" : Str))) (j_ac (j_c pe_str (.str ("ab" : Str))) (j_ac (j_c pe_str (.str ("abc" : Str))) (j_ac (j_c pe_str (.str ("a0" : Str))) (j_ac (j_c pe_str (.str ("z9" : Str))) j_an))))))) pa_nil)))) (j_seq (j_parC (is := [4, 5, 6]) (ps_asg (pe_tup (j_md (j_callD d__law_draw hr (by decide) (by rfl) (j_ac (j_var 0 (pv 0)) (j_ac (j_c pe_int (.int 3)) j_an)) (fun ρ S ds S' z => len_2 z) rfl) (j_md (j_callD d__law_draw hr (by decide) (by rfl) (j_ac (j_var 0 (pv 0)) (j_ac (j_c pe_int (.int 7)) j_an)) (fun ρ S ds S' z => len_2 z) rfl) (j_mo (j_disp j_an) j_mn)))) (pg_tup rfl (pgs_cons (pg_name (i := 4) sc__law_names.nd rfl (Or.inl rfl)) (pgs_cons (pg_name (i := 5) sc__law_names.nd rfl (Or.inl rfl)) (pgs_cons (pg_name (i := 6) sc__law_names.nd rfl (Or.inr rfl)) pgs_nil))))) rfl (by decide)) (j_seq (j_asg (sg_name (i := 7) (vs := [7]) (by decide)) (ps_set (i := 7) sc__law_names.nd rfl (Or.inl rfl) (j_op sp_add (pe_op op_addJ (vw (j_op sp_ix (pe_ix ix_seq (j_peek 2 (pv 2)) (vw (j_callD d__law_draw hr (by decide) (by rfl) (j_ac (j_var 0 (pv 0)) (j_ac (j_c pe_int (.int 26)) j_an)) (fun ρ S ds S' z => len_2 z) rfl)) (fun _ _ => rfl)))) (vw (j_join (pe_join (vw (j_c pe_str (.str ("" : Str)))) (lw (j_comp (sg_name (i := 9) (vs := [9]) (by decide)) (pe_lc (own := [("_law_lap", 9)]) (g := (gName 9)) (tt := tT _ cYes) (te := tV _ (eCall f__law_pick (aC (eV 0) (aC (eV 2) aN)))) (by rfl) sc__law_names.nd (j_iw (j_rg1 (pi_range1 (by rfl) T.b_range (j_acW (j_peek 5 (pv 5)) j_anW)))) (blkOk_by (own := [("_law_lap", 9)]) (N := N__law_names) (sc := (defScope s__law_names)) (by decide +kernel)) (fun _ _ _ _ _ => (pg_name (i := 9) sc__law_names.nd rfl (Or.inl rfl))) (fun _ _ _ _ _ => j_yes) (fun _ _ _ _ _ => (j_callD d__law_pick hr (by decide) (by rfl) (j_ac (j_var 0 (pv 0)) (j_ac (j_var 2 (pv 2)) j_an)) (fun ρ S ds S' z => len_2 z) rfl)))))))))))) (j_seq (j_asg (sg_name (i := 8) (vs := [8]) (by decide)) (ps_set (i := 8) sc__law_names.nd rfl (Or.inl rfl) (j_op sp_add (pe_op op_addJ (vw (j_c pe_int (.int 1))) (vw (j_callD d__law_draw hr (by decide) (by rfl) (j_ac (j_var 0 (pv 0)) (j_ac (j_op sp_add (pe_op op_addJ (j_peek 5 (pv 5)) (vw (j_c pe_int (.int 1))))) j_an)) (fun ρ S ds S' z => len_2 z) rfl)))))) (j_seq (j_for (sg_name (i := 9) (vs := [9]) (by decide)) (ps_for PassesOwn.never rfl (j_rg1 (pi_range1 (by rfl) T.b_range (j_acW (j_peek 1 (pv 1)) j_anW))) (pg_name (i := 9) sc__law_names.nd rfl (Or.inl rfl)) (j_seq (j_asg (sg_name (i := 10) (vs := [10]) (by decide)) (ps_set (i := 10) sc__law_names.nd rfl (Or.inl rfl) (j_op sp_add (pe_op op_addJ (vw (j_op sp_add (pe_op op_addJ (vw (j_sl (j_peek 7 (pv 7)) j_oN (j_oS (j_var 8 (pv 8))))) (vw (j_callD d__law_pick hr (by decide) (by rfl) (j_ac (j_var 0 (pv 0)) (j_ac (j_var 2 (pv 2)) j_an)) (fun ρ S ds S' z => len_2 z) rfl))))) (vw (j_sl (j_peek 7 (pv 7)) (j_oS (j_var 8 (pv 8))) j_oN)))))) (j_seq (j_ifS (j_cmpT sp_eq (pt_cmpR (op_eqD hr.units) (j_peek 4 (pv 4)) (vw (j_c pe_int (.int 1))) (nomark _))) (j_freeze 3 (j_last (j_asg (sg_name (i := 10) (vs := [10]) (by decide)) (ps_set (i := 10) sc__law_names.nd rfl (Or.inl rfl) (j_callD d__law_pick hr (by decide) (by rfl) (j_ac (j_var 0 (pv 0)) (j_ac (j_var 3 (pv 3)) j_an)) (fun ρ S ds S' z => len_2 z) rfl))))) j_nil) (j_seq (j_ifS (j_cmpT sp_eq (pt_cmpR (op_eqD hr.units) (j_peek 4 (pv 4)) (vw (j_c pe_int (.int 2))) (nomark _))) (j_seq (j_asg (sg_name (i := 11) (vs := [11]) (by decide)) (j_setV (i := 0) (j_setC (sg_name (i := 12) (vs := [12]) (by decide)) (ps_setLc (i := 11) (own := [("_law_k", 12)]) (g := (gName 12)) (tt := tT _ cYes) (te := tV _ (eCall f__law_pick (aC (eV 0) (aC (eV 2) aN)))) (by rfl) sc__law_names.nd rfl rfl (sw_true rfl rfl rfl (by decide +kernel)) (j_iw (j_rg1 (pi_range1 (by rfl) T.b_range (j_acW (vw (j_callD d__law_draw hr (by decide) (by rfl) (j_ac (j_var 0 (pv 0)) (j_ac (j_c pe_int (.int 8)) j_an)) (fun ρ S ds S' z => len_2 z) rfl)) j_anW)))) (blkOk_by (own := [("_law_k", 12)]) (N := N__law_names) (sc := (defScope s__law_names)) (by decide +kernel)) (fun _ _ _ _ _ => (pg_name (i := 12) sc__law_names.nd rfl (Or.inl rfl))) (fun _ _ _ _ _ => j_yes) (fun _ _ _ _ _ => (j_callD d__law_pick hr (by decide) (by rfl) (j_ac (j_var 0 (pv 0)) (j_ac (j_var 2 (pv 2)) j_an)) (fun ρ S ds S' z => len_2 z) rfl)))))) (j_last (j_asg (sg_name (i := 10) (vs := [10]) (by decide)) (ps_set (i := 10) sc__law_names.nd rfl (Or.inl rfl) (j_op sp_add (pe_op op_addJ (vw (j_op sp_ix (pe_ix ix_seq (j_peek 2 (pv 2)) (vw (j_callD d__law_draw hr (by decide) (by rfl) (j_ac (j_var 0 (pv 0)) (j_ac (j_c pe_int (.int 26)) j_an)) (fun ρ S ds S' z => len_2 z) rfl)) (fun _ _ => rfl)))) (vw (j_join (pe_join (vw (j_c pe_str (.str ("" : Str)))) (j_peek 11 (pv 11))))))))))) j_nil) (j_seq (j_ifS (j_cmpT sp_in (pt_cmpR (op_inJ (hu65 hr)) (j_peek 10 (pv 10)) (j_peek 6 (pv 6)) (by with_unfolding_all rfl))) (j_last (j_asg (sg_name (i := 10) (vs := [10]) (by decide)) (ps_set (i := 10) sc__law_names.nd rfl (Or.inl rfl) (j_op sp_ix (pe_ix ix_seq (lw (j_comp (sg_name (i := 13) (vs := [13]) (by decide)) (pe_lc (own := [("_law_sign", 13)]) (g := (gName 13)) (tt := tT _ (tOf (e2 (gIn true) (eP 13) (eP 6)))) (te := tV _ (eV 13)) (by rfl) sc__law_names.nd (j_itW (vw (j_sl (j_peek 2 (pv 2)) j_oN (j_oS (j_c pe_int (.int 26)))))) (blkOk_by (own := [("_law_sign", 13)]) (N := N__law_names) (sc := (defScope s__law_names)) (by decide +kernel)) (fun _ _ _ _ _ => (pg_name (i := 13) sc__law_names.nd rfl (Or.inl rfl))) (fun _ _ _ _ _ => (pts_one (j_cmpT sp_in (pt_cmpR (op_notInJ (hu65 hr)) (j_peek 13 (pv 13)) (j_peek 6 (pv 6)) (by with_unfolding_all rfl))))) (fun _ _ _ _ _ => (j_var 13 (pv 13)))))) (vw (j_c pe_int (.int 0))) (fun _ _ => rfl)))))) j_nil) (j_last (j_app (ps_expr (pe_bm PySem.F.plainAttrs_list PySem.F.slot_list_append PySem.F.type_list_append mt_append (pv 6) (pa_cons (j_var 10 (pv 10)) pa_nil))))))))))) (j_freeze 6 (j_last (j_ret (j_var 6 (pv 6)))))))))))) : PSs _ _ (tS _ F0 α0 H g__law_names))
abbrev s__law_sources : Stmt := top 21
abbrev N__law_sources : List Str := ["_law_feed_here", "_law_names_here", "_law_tongues", "_law_keys", "_law_found", "_law_i", "_law_name", "_law_lower", "_law_many", "_law_uses", "_law_speaks", "_law_steady", "_law_j", "_law_lap"]
theorem sc__law_sources : FnScope N__law_sources ["_law_feed_here", "_law_names_here", "_law_tongues"] (defScope s__law_sources) := ⟨rfl, rfl, rfl, by decide +kernel, rfl, by decide +kernel, by decide +kernel⟩
def g__law_sources : GS := (sSeq (sPar [3, 4] (mD (eL (lComp [6] (iOf (eP 1)) (bName 6) cYes (eCall f__law_draw (aC (eV 0) (aC (eC (.int 100)) aN))))) (mO (lDisp aN) mN))) (sSeq (sFor (iEn (aC (eV 1) aN)) (bTup 2 (bCons (bName 5) (bCons (bName 6) bNil))) (sSeq (sSet (eL (lComp [12] (iRg1 (aC (aG gLen (aC (eP 1) aN)) aN)) (bName 12) (tOf (e2 gLt (eTup (aC (e2 gIx (eP 3) (eP 12)) (aC (eV 12) aN))) (eTup (aC (e2 gIx (eP 3) (eP 5)) (aC (eV 5) aN))))) (e2 gIx (eP 1) (eP 12)))) (bName 7)) (sSeq (sSet (eIf (tOf (e2 (gEq true) (eP 7) (eL (lDisp aN)))) (eCall f__law_draw (aC (eV 0) (aC (eC (.int 4)) aN))) (eC (.int 0))) (bName 8)) (sSeq (sSet (aG gTuple (aC (eL (lSortedSet (eL (lComp [13] (iRg1 (aC (eP 8) aN)) (bName 13) cYes (eCall f__law_pick (aC (eV 0) (aC (eV 7) aN))))))) aN)) (bName 9)) (sSeq (sSet (aG gTuple (aC (eL (lSortedSet (eL (lComp [13] (iRg1 (aC (eCall f__law_draw (aC (eV 0) (aC (eC (.int 3)) aN))) aN)) (bName 13) cYes (eCall f__law_pick (aC (eV 0) (aC (eV 2) aN))))))) aN)) (bName 10)) (sSeq (sSet (e2 gGt (eCall f__law_draw (aC (eV 0) (aC (eC (.int 3)) aN))) (eC (.int 0))) (bName 11)) (sApp 4 (eTup (aC (eV 6) (aC (eCall f__law_pick (aC (eV 0) (aC (eV 2) aN))) (aC (eV 10) (aC (eV 11) (aC (eV 9) aN))))))))))))) (sRet (aG gTuple (aC (eP 4) aN)))))
def f__law_sources : FN := runDef 14 g__law_sources
theorem ok__law_sources {P : Program} {w : World} {K : PySem.W.Frag} {mg : Str → Option Value} {base : Heap} (h : Here K mg "_law_sources" "_law_sources" s__law_sources ["_law_feed_here", "_law_names_here", "_law_tongues"]) (T : Txt K mg) (d__law_draw : Does P w K mg base 1 "_law_draw" ["_law_feed_here", "_law_many"] f__law_draw) (d__law_pick : Does P w K mg base 2 "_law_pick" ["_law_feed_here", "_law_things"] f__law_pick) : Does P w K mg base 3 "_law_sources" ["_law_feed_here", "_law_names_here", "_law_tongues"] f__law_sources :=
  does_of h sc__law_sources fun fa cdv A outer s H E F0 α0 hr => ((j_seq (j_parC (is := [3, 4]) (ps_asg (pe_tup (j_md (lv (j_comp (sg_name (i := 6) (vs := [6]) (by decide)) (pe_lc (own := [("_law_name", 6)]) (g := (gName 6)) (tt := tT _ cYes) (te := tV _ (eCall f__law_draw (aC (eV 0) (aC (eC (.int 100)) aN)))) (by rfl) sc__law_sources.nd (j_itW (j_peek 1 (pv 1))) (blkOk_by (own := [("_law_name", 6)]) (N := N__law_sources) (sc := (defScope s__law_sources)) (by decide +kernel)) (fun _ _ _ _ _ => (pg_name (i := 6) sc__law_sources.nd rfl (Or.inl rfl))) (fun _ _ _ _ _ => j_yes) (fun _ _ _ _ _ => (j_callD d__law_draw hr (by decide) (by rfl) (j_ac (j_var 0 (pv 0)) (j_ac (j_c pe_int (.int 100)) j_an)) (fun ρ S ds S' z => len_2 z) rfl))))) (j_mo (j_disp j_an) j_mn))) (pg_tup rfl (pgs_cons (pg_name (i := 3) sc__law_sources.nd rfl (Or.inr rfl)) (pgs_cons (pg_name (i := 4) sc__law_sources.nd rfl (Or.inl rfl)) pgs_nil)))) rfl (by decide)) (j_seq (j_for (sg_tup (n := 2) (sg_cons (sg_name (i := 5) (vs := [5, 6]) (by decide)) (sg_cons (sg_name (i := 6) (vs := [5, 6]) (by decide)) sg_nil))) (ps_for PassesOwn.never rfl (j_en (pi_enum (by rfl) T.b_enumerate (j_ac (j_var 1 (pv 1)) j_an))) (pg_tup rfl (pgs_cons (pg_name (i := 5) sc__law_sources.nd rfl (Or.inr rfl)) (pgs_cons (pg_name (i := 6) sc__law_sources.nd rfl (Or.inl rfl)) pgs_nil))) (j_seq (j_asg (sg_name (i := 7) (vs := [7]) (by decide)) (j_setV (i := 0) (ps_set (i := 7) sc__law_sources.nd rfl (Or.inr rfl) (j_comp (sg_name (i := 12) (vs := [12]) (by decide)) (pe_lc (own := [("_law_j", 12)]) (g := (gName 12)) (tt := tT _ (tOf (e2 gLt (eTup (aC (e2 gIx (eP 3) (eP 12)) (aC (eV 12) aN))) (eTup (aC (e2 gIx (eP 3) (eP 5)) (aC (eV 5) aN)))))) (te := tV _ (e2 gIx (eP 1) (eP 12))) (by rfl) sc__law_sources.nd (j_iw (j_rg1 (pi_range1 (by rfl) T.b_range (j_acW (vw (j_cb sp_len (pe_callB call_lenJ (by rfl) T.b_len PySem.boot_len (j_acW (j_peek 1 (pv 1)) j_anW)))) j_anW)))) (blkOk_by (own := [("_law_j", 12)]) (N := N__law_sources) (sc := (defScope s__law_sources)) (by decide +kernel)) (fun _ _ _ _ _ => (pg_name (i := 12) sc__law_sources.nd rfl (Or.inl rfl))) (fun _ _ _ _ _ => (pts_one (j_cmpT sp_lt (pt_cmpR (op_ltJ hr.units0) (vw (j_tup (j_ac (j_op sp_ix (pe_ix ix_seq (j_peek 3 (pv 3)) (j_peek 12 (pv 12)) (fun _ _ => rfl))) (j_ac (j_var 12 (pv 12)) j_an)))) (vw (j_tup (j_ac (j_op sp_ix (pe_ix ix_seq (j_peek 3 (pv 3)) (j_peek 5 (pv 5)) (fun _ _ => rfl))) (j_ac (j_var 5 (pv 5)) j_an)))) (nomark _))))) (fun _ _ _ _ _ => (j_op sp_ix (pe_ix ix_seq (j_peek 1 (pv 1)) (j_peek 12 (pv 12)) (fun _ _ => rfl))))))))) (j_seq (j_asg (sg_name (i := 8) (vs := [8]) (by decide)) (ps_set (i := 8) sc__law_sources.nd rfl (Or.inl rfl) (j_if (j_cmpT sp_ne (pt_cmpR (op_neD hr.units) (j_peek 7 (pv 7)) (lw (j_disp j_an)) (nomark _))) (j_callD d__law_draw hr (by decide) (by rfl) (j_ac (j_var 0 (pv 0)) (j_ac (j_c pe_int (.int 4)) j_an)) (fun ρ S ds S' z => len_2 z) rfl) (j_c pe_int (.int 0))))) (j_seq (j_asg (sg_name (i := 9) (vs := [9]) (by decide)) (ps_set (i := 9) sc__law_sources.nd rfl (Or.inl rfl) (j_cb sp_tuple (pe_callTy call_tuple_of (by rfl) T.b_tuple (by decide +kernel) (j_acW (lw (j_sortedSet rfl (by rfl) T.b_sorted (by rfl) T.b_set (lw (j_comp (sg_name (i := 13) (vs := [13]) (by decide)) (pe_lc (own := [("_law_lap", 13)]) (g := (gName 13)) (tt := tT _ cYes) (te := tV _ (eCall f__law_pick (aC (eV 0) (aC (eV 7) aN)))) (by rfl) sc__law_sources.nd (j_iw (j_rg1 (pi_range1 (by rfl) T.b_range (j_acW (j_peek 8 (pv 8)) j_anW)))) (blkOk_by (own := [("_law_lap", 13)]) (N := N__law_sources) (sc := (defScope s__law_sources)) (by decide +kernel)) (fun _ _ _ _ _ => (pg_name (i := 13) sc__law_sources.nd rfl (Or.inl rfl))) (fun _ _ _ _ _ => j_yes) (fun _ _ _ _ _ => (j_callD d__law_pick hr (by decide) (by rfl) (j_ac (j_var 0 (pv 0)) (j_ac (j_var 7 (pv 7)) j_an)) (fun ρ S ds S' z => len_2 z) rfl))))))) j_anW))))) (j_seq (j_asg (sg_name (i := 10) (vs := [10]) (by decide)) (ps_set (i := 10) sc__law_sources.nd rfl (Or.inl rfl) (j_cb sp_tuple (pe_callTy call_tuple_of (by rfl) T.b_tuple (by decide +kernel) (j_acW (lw (j_sortedSet rfl (by rfl) T.b_sorted (by rfl) T.b_set (lw (j_comp (sg_name (i := 13) (vs := [13]) (by decide)) (pe_lc (own := [("_law_lap", 13)]) (g := (gName 13)) (tt := tT _ cYes) (te := tV _ (eCall f__law_pick (aC (eV 0) (aC (eV 2) aN)))) (by rfl) sc__law_sources.nd (j_iw (j_rg1 (pi_range1 (by rfl) T.b_range (j_acW (vw (j_callD d__law_draw hr (by decide) (by rfl) (j_ac (j_var 0 (pv 0)) (j_ac (j_c pe_int (.int 3)) j_an)) (fun ρ S ds S' z => len_2 z) rfl)) j_anW)))) (blkOk_by (own := [("_law_lap", 13)]) (N := N__law_sources) (sc := (defScope s__law_sources)) (by decide +kernel)) (fun _ _ _ _ _ => (pg_name (i := 13) sc__law_sources.nd rfl (Or.inl rfl))) (fun _ _ _ _ _ => j_yes) (fun _ _ _ _ _ => (j_callD d__law_pick hr (by decide) (by rfl) (j_ac (j_var 0 (pv 0)) (j_ac (j_var 2 (pv 2)) j_an)) (fun ρ S ds S' z => len_2 z) rfl))))))) j_anW))))) (j_seq (j_asg (sg_name (i := 11) (vs := [11]) (by decide)) (ps_set (i := 11) sc__law_sources.nd rfl (Or.inl rfl) (j_op sp_gt (pe_cmpR op_gtJ (vw (j_callD d__law_draw hr (by decide) (by rfl) (j_ac (j_var 0 (pv 0)) (j_ac (j_c pe_int (.int 3)) j_an)) (fun ρ S ds S' z => len_2 z) rfl)) (vw (j_c pe_int (.int 0))) (nomark _))))) (j_last (j_app (ps_expr (pe_bm PySem.F.plainAttrs_list PySem.F.slot_list_append PySem.F.type_list_append mt_append (pv 4) (pa_cons (j_tup (j_ac (j_var 6 (pv 6)) (j_ac (j_callD d__law_pick hr (by decide) (by rfl) (j_ac (j_var 0 (pv 0)) (j_ac (j_var 2 (pv 2)) j_an)) (fun ρ S ds S' z => len_2 z) rfl) (j_ac (j_var 10 (pv 10)) (j_ac (j_var 11 (pv 11)) (j_ac (j_var 9 (pv 9)) j_an)))))) pa_nil)))))))))))) (j_last (j_ret (j_cb sp_tuple (pe_callTy call_tuple_of (by rfl) T.b_tuple (by decide +kernel) (j_acW (j_peek 4 (pv 4)) j_anW))))))) : PSs _ _ (tS _ F0 α0 H g__law_sources))
abbrev s__law_weight : Stmt := top 22
abbrev N__law_weight : List Str := ["_law_feed_here", "_law_way"]
theorem sc__law_weight : FnScope N__law_weight ["_law_feed_here"] (defScope s__law_weight) := ⟨rfl, rfl, rfl, by decide +kernel, rfl, by decide +kernel, by decide +kernel⟩
def g__law_weight : GS := (sSeq (sSet (eCall f__law_draw (aC (eV 0) (aC (eC (.int 4)) aN))) (bName 1)) (sSeq (sIf (tOf (e2 (gEq false) (eP 1) (eC (.int 0)))) (sRet (e2 gAdd (e2 gAdd (eC (.int 1)) (e2 (gI CMulW fun i j => i * j) (eCall f__law_draw (aC (eV 0) (aC (e2 (gI CPow fun i j => i ^ j.toNat) (eC (.int 10)) (eC (.int 6))) aN))) (e2 (gI CPow fun i j => i ^ j.toNat) (eC (.int 10)) (eC (.int 53))))) (eCall f__law_draw (aC (eV 0) (aC (e2 (gI CPow fun i j => i ^ j.toNat) (eC (.int 10)) (eC (.int 6))) aN))))) sNil) (sRet (e2 gAdd (eC (.int 1)) (eCall f__law_draw (aC (eV 0) (aC (e2 gIx (eL (lDisp (aC (eC (.int 3)) (aC (eC (.int 12)) (aC (eC (.int 1200)) aN))))) (e2 (gI0 fun i j => i - j) (eP 1) (eC (.int 1)))) aN)))))))
def f__law_weight : FN := runDef 2 g__law_weight
theorem ok__law_weight {P : Program} {w : World} {K : PySem.W.Frag} {mg : Str → Option Value} {base : Heap} (h : Here K mg "_law_weight" "_law_weight" s__law_weight ["_law_feed_here"]) (T : Txt K mg) (d__law_draw : Does P w K mg base 1 "_law_draw" ["_law_feed_here", "_law_many"] f__law_draw) : Does P w K mg base 2 "_law_weight" ["_law_feed_here"] f__law_weight :=
  does_of h sc__law_weight fun fa cdv A outer s H E F0 α0 hr => ((j_seq (j_asg (sg_name (i := 1) (vs := [1]) (by decide)) (ps_set (i := 1) sc__law_weight.nd rfl (Or.inl rfl) (j_callD d__law_draw hr (by decide) (by rfl) (j_ac (j_var 0 (pv 0)) (j_ac (j_c pe_int (.int 4)) j_an)) (fun ρ S ds S' z => len_2 z) rfl))) (j_seq (j_ifS (j_cmpT sp_eq (pt_cmpR (op_eqD hr.units) (j_peek 1 (pv 1)) (vw (j_c pe_int (.int 0))) (nomark _))) (j_last (j_ret (j_op sp_add (pe_op op_addJ (vw (j_op sp_add (pe_op op_addJ (vw (j_c pe_int (.int 1))) (vw (j_op sp_I (pe_op op_mulW (vw (j_callD d__law_draw hr (by decide) (by rfl) (j_ac (j_var 0 (pv 0)) (j_ac (j_op sp_I (pe_op op_pow (vw (j_c pe_int (.int 10))) (vw (j_c pe_int (.int 6))))) j_an)) (fun ρ S ds S' z => len_2 z) rfl)) (vw (j_op sp_I (pe_op op_pow (vw (j_c pe_int (.int 10))) (vw (j_c pe_int (.int 53)))))))))))) (vw (j_callD d__law_draw hr (by decide) (by rfl) (j_ac (j_var 0 (pv 0)) (j_ac (j_op sp_I (pe_op op_pow (vw (j_c pe_int (.int 10))) (vw (j_c pe_int (.int 6))))) j_an)) (fun ρ S ds S' z => len_2 z) rfl)))))) j_nil) (j_last (j_ret (j_op sp_add (pe_op op_addJ (vw (j_c pe_int (.int 1))) (vw (j_callD d__law_draw hr (by decide) (by rfl) (j_ac (j_var 0 (pv 0)) (j_ac (j_op sp_ix (pe_ix ix_seq (lw (j_disp (j_ac (j_c pe_int (.int 3)) (j_ac (j_c pe_int (.int 12)) (j_ac (j_c pe_int (.int 1200)) j_an))))) (vw (j_op sp_I0 (pe_op op_sub (j_peek 1 (pv 1)) (vw (j_c pe_int (.int 1)))))) (fun _ _ => rfl))) j_an)) (fun ρ S ds S' z => len_2 z) rfl)))))))) : PSs _ _ (tS _ F0 α0 H g__law_weight))
abbrev s__law_build : Stmt := top 23
abbrev N__law_build : List Str := ["_law_feed_here", "_law_whole", "_law_blobs", "_law_source", "_law_one", "_law_given", "_law_use"]
theorem sc__law_build : FnScope N__law_build ["_law_feed_here", "_law_whole", "_law_blobs"] (defScope s__law_build) := ⟨rfl, rfl, rfl, by decide +kernel, rfl, by decide +kernel, by decide +kernel⟩
def g__law_build : GS := (sSeq (sPar [3, 4] (mD (eCall f__law_pick (aC (eV 0) (aC (e2 gIx (eP 1) (eC (.int 0))) aN))) (mD (eCall f__law_pick (aC (eV 0) (aC (e2 gIx (eP 1) (eC (.int 1))) aN))) mN))) (sSeq (sIf (tOf (e2 (gEq false) (eCall f__law_draw (aC (eV 0) (aC (eC (.int 4)) aN))) (eC (.int 0)))) (sRet (eTup (aC (e2 gIx (eP 4) (eC (.int 0))) (aC (eC .non) (aC (e2 gIx (eP 3) (eC (.int 0))) (aC (eTup aN) (aC (eCall f__law_pick (aC (eV 0) (aC (eV 2) aN))) aN))))))) sNil) (sSeq (sSet (aG gTuple (aC (eL (lComp [6] (iOf (e2 gIx (eP 3) (eC (.int 4)))) (bName 6) cYes (eCall f__law_pick (aC (eV 0) (aC (eV 2) aN))))) aN)) (bName 5)) (sRet (eTup (aC (e2 gIx (eP 4) (eC (.int 0))) (aC (eCall f__law_pick (aC (eV 0) (aC (eV 2) aN))) (aC (e2 gIx (eP 3) (eC (.int 0))) (aC (eV 5) (aC (eCall f__law_pick (aC (eV 0) (aC (eV 2) aN))) aN))))))))))
def f__law_build : FN := runDef 7 g__law_build
theorem ok__law_build {P : Program} {w : World} {K : PySem.W.Frag} {mg : Str → Option Value} {base : Heap} (h : Here K mg "_law_build" "_law_build" s__law_build ["_law_feed_here", "_law_whole", "_law_blobs"]) (T : Txt K mg) (d__law_pick : Does P w K mg base 2 "_law_pick" ["_law_feed_here", "_law_things"] f__law_pick) (d__law_draw : Does P w K mg base 1 "_law_draw" ["_law_feed_here", "_law_many"] f__law_draw) : Does P w K mg base 3 "_law_build" ["_law_feed_here", "_law_whole", "_law_blobs"] f__law_build :=
  does_of h sc__law_build fun fa cdv A outer s H E F0 α0 hr => ((j_seq (j_par2 (ps_par (i := 3) (j := 4) (by rfl) sc__law_build.nd rfl rfl (by decide) rfl rfl (j_md (j_callD d__law_pick hr (by decide) (by rfl) (j_ac (j_var 0 (pv 0)) (j_ac (j_op sp_ix (pe_ix ix_seq (j_peek 1 (pv 1)) (vw (j_c pe_int (.int 0))) (fun _ _ => rfl))) j_an)) (fun ρ S ds S' z => len_2 z) rfl) (j_md (j_callD d__law_pick hr (by decide) (by rfl) (j_ac (j_var 0 (pv 0)) (j_ac (j_op sp_ix (pe_ix ix_seq (j_peek 1 (pv 1)) (vw (j_c pe_int (.int 1))) (fun _ _ => rfl))) j_an)) (fun ρ S ds S' z => len_2 z) rfl) j_mn)) (by rfl))) (j_seq (j_ifS (j_cmpT sp_eq (pt_cmpR (op_eqD hr.units) (vw (j_callD d__law_draw hr (by decide) (by rfl) (j_ac (j_var 0 (pv 0)) (j_ac (j_c pe_int (.int 4)) j_an)) (fun ρ S ds S' z => len_2 z) rfl)) (vw (j_c pe_int (.int 0))) (nomark _))) (j_last (j_ret (j_tup (j_ac (j_op sp_ix (pe_ix ix_seq (j_peek 4 (pv 4)) (vw (j_c pe_int (.int 0))) (fun _ _ => rfl))) (j_ac (j_c pe_non .non) (j_ac (j_op sp_ix (pe_ix ix_seq (j_peek 3 (pv 3)) (vw (j_c pe_int (.int 0))) (fun _ _ => rfl))) (j_ac (j_tup j_an) (j_ac (j_callD d__law_pick hr (by decide) (by rfl) (j_ac (j_var 0 (pv 0)) (j_ac (j_var 2 (pv 2)) j_an)) (fun ρ S ds S' z => len_2 z) rfl) j_an)))))))) j_nil) (j_seq (j_asg (sg_name (i := 5) (vs := [5]) (by decide)) (ps_set (i := 5) sc__law_build.nd rfl (Or.inl rfl) (j_cb sp_tuple (pe_callTy call_tuple_of (by rfl) T.b_tuple (by decide +kernel) (j_acW (lw (j_comp (sg_name (i := 6) (vs := [6]) (by decide)) (pe_lc (own := [("_law_use", 6)]) (g := (gName 6)) (tt := tT _ cYes) (te := tV _ (eCall f__law_pick (aC (eV 0) (aC (eV 2) aN)))) (by rfl) sc__law_build.nd (j_itW (vw (j_op sp_ix (pe_ix ix_seq (j_peek 3 (pv 3)) (vw (j_c pe_int (.int 4))) (fun _ _ => rfl))))) (blkOk_by (own := [("_law_use", 6)]) (N := N__law_build) (sc := (defScope s__law_build)) (by decide +kernel)) (fun _ _ _ _ _ => (pg_name (i := 6) sc__law_build.nd rfl (Or.inl rfl))) (fun _ _ _ _ _ => j_yes) (fun _ _ _ _ _ => (j_callD d__law_pick hr (by decide) (by rfl) (j_ac (j_var 0 (pv 0)) (j_ac (j_var 2 (pv 2)) j_an)) (fun ρ S ds S' z => len_2 z) rfl))))) j_anW))))) (j_last (j_ret (j_tup (j_ac (j_op sp_ix (pe_ix ix_seq (j_peek 4 (pv 4)) (vw (j_c pe_int (.int 0))) (fun _ _ => rfl))) (j_ac (j_callD d__law_pick hr (by decide) (by rfl) (j_ac (j_var 0 (pv 0)) (j_ac (j_var 2 (pv 2)) j_an)) (fun ρ S ds S' z => len_2 z) rfl) (j_ac (j_op sp_ix (pe_ix ix_seq (j_peek 3 (pv 3)) (vw (j_c pe_int (.int 0))) (fun _ _ => rfl))) (j_ac (j_var 5 (pv 5)) (j_ac (j_callD d__law_pick hr (by decide) (by rfl) (j_ac (j_var 0 (pv 0)) (j_ac (j_var 2 (pv 2)) j_an)) (fun ρ S ds S' z => len_2 z) rfl) j_an))))))))))) : PSs _ _ (tS _ F0 α0 H g__law_build))
abbrev s__law_book : Stmt := top 24
abbrev N__law_book : List Str := ["_law_feed_here", "_law_names_here", "_law_folk", "_law_blobs", "_law_first", "_law_whole", "_law_pairs", "_law_found", "_law_i", "_law_many", "_law_lap", "_law_build_here", "_law_name"]
theorem sc__law_book : FnScope N__law_book ["_law_feed_here"] (defScope s__law_book) := ⟨rfl, rfl, rfl, by decide +kernel, rfl, by decide +kernel, by decide +kernel⟩
def g__law_book : GS := (sSeq (sSet (eL (aGL gSortedS (aC (eCall f__law_names (aC (eV 0) (aC (e2 gIx (eL (lDisp (aC (eC (.int 2)) (aC (eC (.int 3)) (aC (eC (.int 1)) (aC (eC (.int 4)) (aC (eC (.int 2)) (aC (eC (.int 6)) (aC (eC (.int 0)) (aC (eC (.int 3)) aN)))))))))) (eCall f__law_draw (aC (eV 0) (aC (eC (.int 8)) aN)))) aN))) aN))) (bName 1)) (sSeq (sSet (eL (aGL gSortedS (aC (eCall f__law_names (aC (eV 0) (aC (e2 gIx (eL (lDisp (aC (eC (.int 2)) (aC (eC (.int 3)) (aC (eC (.int 1)) (aC (eC (.int 5)) (aC (eC (.int 2)) (aC (eC (.int 0)) (aC (eC (.int 4)) (aC (eC (.int 3)) aN)))))))))) (eCall f__law_draw (aC (eV 0) (aC (eC (.int 8)) aN)))) aN))) aN))) (bName 2)) (sSeq (sSet (eCall f__law_names (aC (eV 0) (aC (e2 gIx (eL (lDisp (aC (eC (.int 3)) (aC (eC (.int 5)) (aC (eC (.int 1)) (aC (eC (.int 7)) aN)))))) (eCall f__law_draw (aC (eV 0) (aC (eC (.int 4)) aN)))) aN))) (bName 3)) (sSeq (sIf (tOf (e2 (gEq false) (eCall f__law_draw (aC (eV 0) (aC (eC (.int 4)) aN))) (eC (.int 0)))) (sSet (e2 gAdd (e2 gAdd (eP 3) (eP 1)) (eP 2)) (bName 3)) sNil) (sSeq (sSet (eCall f__law_sources (aC (eV 0) (aC (eV 1) (aC (eCall f__law_names (aC (eV 0) (aC (e2 gAdd (eC (.int 1)) (eCall f__law_draw (aC (eV 0) (aC (eC (.int 3)) aN)))) aN))) aN)))) (bName 4)) (sSeq (sSet (eTup (aC (eV 4) (aC (aG gTuple (aC (eL (lComp [12] (iOf (eP 2)) (bName 12) cYes (eTup (aC (eV 12) (aC (eCall f__law_weight (aC (eV 0) aN)) aN))))) aN)) aN))) (bName 5)) (sSeq (sPar [6, 7] (mO (lDisp aN) (mO (lDisp aN) mN))) (sSeq (sFor (iRg1 (aC (aG gLen (aC (eP 1) aN)) aN)) (bName 8) (sExt 6 (eL (lComp [12] (iOf (eSl (eP 1) (oS (e2 gAdd (eP 8) (eC (.int 1)))) oN)) (bName 12) (tOf (e2 (gEq false) (eCall f__law_draw (aC (eV 0) (aC (eC (.int 3)) aN))) (eC (.int 0)))) (eTup (aC (e2 gIx (eP 1) (eP 8)) (aC (eV 12) aN))))))) (sSeq (sSet (e2 gIx (eL (lDisp (aC (eC (.int 4)) (aC (eC (.int 6)) (aC (eC (.int 2)) (aC (eC (.int 9)) (aC (eC (.int 16)) (aC (eC (.int 0)) (aC (eC (.int 5)) (aC (eC (.int 3)) aN)))))))))) (eCall f__law_draw (aC (eV 0) (aC (eC (.int 8)) aN)))) (bName 9)) (sSeq (sFor (iRg1 (aC (eIf (tAndJ (tOf (e2 (gEq true) (eP 1) (eL (lDisp aN)))) (tOf (e2 (gEq true) (eP 2) (eL (lDisp aN))))) (eV 9) (eC (.int 0))) aN)) (bName 10) (sSeq (sSet (eCall f__law_build (aC (eV 0) (aC (eV 5) (aC (eV 3) aN)))) (bName 11)) (sIf (tOf (e2 (gIn true) (eP 11) (eP 7))) (sApp 7 (eV 11)) sNil))) (sRet (e2 gAdd (eP 5) (eTup (aC (aG gTuple (aC (eP 6) aN)) (aC (aG gTuple (aC (eP 7) aN)) aN)))))))))))))))
def f__law_book : FN := runDef 13 g__law_book
theorem ok__law_book {P : Program} {w : World} {K : PySem.W.Frag} {mg : Str → Option Value} {base : Heap} (h : Here K mg "_law_book" "_law_book" s__law_book ["_law_feed_here"]) (T : Txt K mg) (d__law_names : Does P w K mg base 3 "_law_names" ["_law_feed_here", "_law_many"] f__law_names) (d__law_draw : Does P w K mg base 1 "_law_draw" ["_law_feed_here", "_law_many"] f__law_draw) (d__law_sources : Does P w K mg base 3 "_law_sources" ["_law_feed_here", "_law_names_here", "_law_tongues"] f__law_sources) (d__law_weight : Does P w K mg base 2 "_law_weight" ["_law_feed_here"] f__law_weight) (d__law_build : Does P w K mg base 3 "_law_build" ["_law_feed_here", "_law_whole", "_law_blobs"] f__law_build) : Does P w K mg base 4 "_law_book" ["_law_feed_here"] f__law_book :=
  does_of h sc__law_book fun fa cdv A outer s H E F0 α0 hr => ((j_seq (j_asg (sg_name (i := 1) (vs := [1]) (by decide)) (j_setV (i := 0) (ps_set (i := 1) sc__law_book.nd rfl (Or.inr rfl) (j_cbL sp_sortedS (pe_callB cr_sortedS (by rfl) T.b_sorted (by decide +kernel) (j_acW (vw (j_callD d__law_names hr (by decide) (by rfl) (j_ac (j_var 0 (pv 0)) (j_ac (j_op sp_ix (pe_ix ix_seq (lw (j_disp (j_ac (j_c pe_int (.int 2)) (j_ac (j_c pe_int (.int 3)) (j_ac (j_c pe_int (.int 1)) (j_ac (j_c pe_int (.int 4)) (j_ac (j_c pe_int (.int 2)) (j_ac (j_c pe_int (.int 6)) (j_ac (j_c pe_int (.int 0)) (j_ac (j_c pe_int (.int 3)) j_an)))))))))) (vw (j_callD d__law_draw hr (by decide) (by rfl) (j_ac (j_var 0 (pv 0)) (j_ac (j_c pe_int (.int 8)) j_an)) (fun ρ S ds S' z => len_2 z) rfl)) (fun _ _ => rfl))) j_an)) (fun ρ S ds S' z => len_2 z) rfl)) j_anW)))))) (j_seq (j_asg (sg_name (i := 2) (vs := [2]) (by decide)) (j_setV (i := 0) (ps_set (i := 2) sc__law_book.nd rfl (Or.inl rfl) (j_cbL sp_sortedS (pe_callB cr_sortedS (by rfl) T.b_sorted (by decide +kernel) (j_acW (vw (j_callD d__law_names hr (by decide) (by rfl) (j_ac (j_var 0 (pv 0)) (j_ac (j_op sp_ix (pe_ix ix_seq (lw (j_disp (j_ac (j_c pe_int (.int 2)) (j_ac (j_c pe_int (.int 3)) (j_ac (j_c pe_int (.int 1)) (j_ac (j_c pe_int (.int 5)) (j_ac (j_c pe_int (.int 2)) (j_ac (j_c pe_int (.int 0)) (j_ac (j_c pe_int (.int 4)) (j_ac (j_c pe_int (.int 3)) j_an)))))))))) (vw (j_callD d__law_draw hr (by decide) (by rfl) (j_ac (j_var 0 (pv 0)) (j_ac (j_c pe_int (.int 8)) j_an)) (fun ρ S ds S' z => len_2 z) rfl)) (fun _ _ => rfl))) j_an)) (fun ρ S ds S' z => len_2 z) rfl)) j_anW)))))) (j_seq (j_asg (sg_name (i := 3) (vs := [3]) (by decide)) (ps_set (i := 3) sc__law_book.nd rfl (Or.inl rfl) (j_callD d__law_names hr (by decide) (by rfl) (j_ac (j_var 0 (pv 0)) (j_ac (j_op sp_ix (pe_ix ix_seq (lw (j_disp (j_ac (j_c pe_int (.int 3)) (j_ac (j_c pe_int (.int 5)) (j_ac (j_c pe_int (.int 1)) (j_ac (j_c pe_int (.int 7)) j_an)))))) (vw (j_callD d__law_draw hr (by decide) (by rfl) (j_ac (j_var 0 (pv 0)) (j_ac (j_c pe_int (.int 4)) j_an)) (fun ρ S ds S' z => len_2 z) rfl)) (fun _ _ => rfl))) j_an)) (fun ρ S ds S' z => len_2 z) rfl))) (j_seq (j_ifS (j_cmpT sp_eq (pt_cmpR (op_eqD hr.units) (vw (j_callD d__law_draw hr (by decide) (by rfl) (j_ac (j_var 0 (pv 0)) (j_ac (j_c pe_int (.int 4)) j_an)) (fun ρ S ds S' z => len_2 z) rfl)) (vw (j_c pe_int (.int 0))) (nomark _))) (j_last (j_asg (sg_name (i := 3) (vs := [3]) (by decide)) (ps_set (i := 3) sc__law_book.nd rfl (Or.inl rfl) (j_op sp_add (pe_op op_addJ (vw (j_op sp_add (pe_op op_addJ (j_peek 3 (pv 3)) (j_peek 1 (pv 1))))) (j_peek 2 (pv 2))))))) j_nil) (j_seq (j_asg (sg_name (i := 4) (vs := [4]) (by decide)) (ps_set (i := 4) sc__law_book.nd rfl (Or.inl rfl) (j_callD d__law_sources hr (by decide) (by rfl) (j_ac (j_var 0 (pv 0)) (j_ac (j_var 1 (pv 1)) (j_ac (j_callD d__law_names hr (by decide) (by rfl) (j_ac (j_var 0 (pv 0)) (j_ac (j_op sp_add (pe_op op_addJ (vw (j_c pe_int (.int 1))) (vw (j_callD d__law_draw hr (by decide) (by rfl) (j_ac (j_var 0 (pv 0)) (j_ac (j_c pe_int (.int 3)) j_an)) (fun ρ S ds S' z => len_2 z) rfl)))) j_an)) (fun ρ S ds S' z => len_2 z) rfl) j_an))) (fun ρ S ds S' z => len_3 z) rfl))) (j_seq (j_asg (sg_name (i := 5) (vs := [5]) (by decide)) (ps_set (i := 5) sc__law_book.nd rfl (Or.inl rfl) (j_tup (j_ac (j_var 4 (pv 4)) (j_ac (j_cb sp_tuple (pe_callTy call_tuple_of (by rfl) T.b_tuple (by decide +kernel) (j_acW (lw (j_comp (sg_name (i := 12) (vs := [12]) (by decide)) (pe_lc (own := [("_law_name", 12)]) (g := (gName 12)) (tt := tT _ cYes) (te := tV _ (eTup (aC (eV 12) (aC (eCall f__law_weight (aC (eV 0) aN)) aN)))) (by rfl) sc__law_book.nd (j_itW (j_peek 2 (pv 2))) (blkOk_by (own := [("_law_name", 12)]) (N := N__law_book) (sc := (defScope s__law_book)) (by decide +kernel)) (fun _ _ _ _ _ => (pg_name (i := 12) sc__law_book.nd rfl (Or.inl rfl))) (fun _ _ _ _ _ => j_yes) (fun _ _ _ _ _ => (j_tup (j_ac (j_var 12 (pv 12)) (j_ac (j_callD d__law_weight hr (by decide) (by rfl) (j_ac (j_var 0 (pv 0)) j_an) (fun ρ S ds S' z => len_1 z) rfl) j_an))))))) j_anW))) j_an))))) (j_seq (j_par2 (ps_par (i := 6) (j := 7) (by rfl) sc__law_book.nd rfl rfl (by decide) rfl rfl (j_mo (j_disp j_an) (j_mo (j_disp j_an) j_mn)) (by rfl))) (j_seq (j_for (sg_name (i := 8) (vs := [8]) (by decide)) (ps_for PassesOwn.never rfl (j_rg1 (pi_range1 (by rfl) T.b_range (j_acW (vw (j_cb sp_len (pe_callB call_lenJ (by rfl) T.b_len PySem.boot_len (j_acW (j_peek 1 (pv 1)) j_anW)))) j_anW))) (pg_name (i := 8) sc__law_book.nd rfl (Or.inr rfl)) (j_last (j_ext (ps_expr (pe_bm PySem.F.plainAttrs_list PySem.F.slot_list_extend PySem.F.type_list_extend mt_extend (pv 6) (pa_cons (lw (j_comp (sg_name (i := 12) (vs := [12]) (by decide)) (pe_lc (own := [("_law_name", 12)]) (g := (gName 12)) (tt := tT _ (tOf (e2 (gEq false) (eCall f__law_draw (aC (eV 0) (aC (eC (.int 3)) aN))) (eC (.int 0))))) (te := tV _ (eTup (aC (e2 gIx (eP 1) (eP 8)) (aC (eV 12) aN)))) (by rfl) sc__law_book.nd (j_itW (vw (j_sl (j_peek 1 (pv 1)) (j_oS (j_op sp_add (pe_op op_addJ (j_peek 8 (pv 8)) (vw (j_c pe_int (.int 1)))))) j_oN))) (blkOk_by (own := [("_law_name", 12)]) (N := N__law_book) (sc := (defScope s__law_book)) (by decide +kernel)) (fun _ _ _ _ _ => (pg_name (i := 12) sc__law_book.nd rfl (Or.inl rfl))) (fun _ _ _ _ _ => (pts_one (j_cmpT sp_eq (pt_cmpR (op_eqD hr.units) (vw (j_callD d__law_draw hr (by decide) (by rfl) (j_ac (j_var 0 (pv 0)) (j_ac (j_c pe_int (.int 3)) j_an)) (fun ρ S ds S' z => len_2 z) rfl)) (vw (j_c pe_int (.int 0))) (nomark _))))) (fun _ _ _ _ _ => (j_tup (j_ac (j_op sp_ix (pe_ix ix_seq (j_peek 1 (pv 1)) (j_peek 8 (pv 8)) (fun _ _ => rfl))) (j_ac (j_var 12 (pv 12)) j_an))))))) pa_nil))))))) (j_seq (j_asg (sg_name (i := 9) (vs := [9]) (by decide)) (ps_set (i := 9) sc__law_book.nd rfl (Or.inl rfl) (j_op sp_ix (pe_ix ix_seq (lw (j_disp (j_ac (j_c pe_int (.int 4)) (j_ac (j_c pe_int (.int 6)) (j_ac (j_c pe_int (.int 2)) (j_ac (j_c pe_int (.int 9)) (j_ac (j_c pe_int (.int 16)) (j_ac (j_c pe_int (.int 0)) (j_ac (j_c pe_int (.int 5)) (j_ac (j_c pe_int (.int 3)) j_an)))))))))) (vw (j_callD d__law_draw hr (by decide) (by rfl) (j_ac (j_var 0 (pv 0)) (j_ac (j_c pe_int (.int 8)) j_an)) (fun ρ S ds S' z => len_2 z) rfl)) (fun _ _ => rfl))))) (j_seq (j_for (sg_name (i := 10) (vs := [10]) (by decide)) (ps_for PassesOwn.never rfl (j_rg1 (pi_range1 (by rfl) T.b_range (j_acW (vw (j_if (PW.pt (j_and (j_cmpT sp_ne (pt_cmpR (op_neD hr.units) (j_peek 1 (pv 1)) (lw (j_disp j_an)) (nomark _))) (j_and1 (j_cmpT sp_ne (pt_cmpR (op_neD hr.units) (j_peek 2 (pv 2)) (lw (j_disp j_an)) (nomark _)))))) (j_var 9 (pv 9)) (j_c pe_int (.int 0)))) j_anW))) (pg_name (i := 10) sc__law_book.nd rfl (Or.inl rfl)) (j_seq (j_asg (sg_name (i := 11) (vs := [11]) (by decide)) (ps_set (i := 11) sc__law_book.nd rfl (Or.inl rfl) (j_callD d__law_build hr (by decide) (by rfl) (j_ac (j_var 0 (pv 0)) (j_ac (j_var 5 (pv 5)) (j_ac (j_var 3 (pv 3)) j_an))) (fun ρ S ds S' z => len_3 z) rfl))) (j_last (j_ifS (j_cmpT sp_in (pt_cmpR (op_notInJ (hu65 hr)) (j_peek 11 (pv 11)) (j_peek 7 (pv 7)) (by with_unfolding_all rfl))) (j_last (j_app (ps_expr (pe_bm PySem.F.plainAttrs_list PySem.F.slot_list_append PySem.F.type_list_append mt_append (pv 7) (pa_cons (j_var 11 (pv 11)) pa_nil))))) j_nil))))) (j_last (j_ret (j_op sp_add (pe_op op_addJ (j_peek 5 (pv 5)) (vw (j_tup (j_ac (j_cb sp_tuple (pe_callTy call_tuple_of (by rfl) T.b_tuple (by decide +kernel) (j_acW (j_peek 6 (pv 6)) j_anW))) (j_ac (j_cb sp_tuple (pe_callTy call_tuple_of (by rfl) T.b_tuple (by decide +kernel) (j_acW (j_peek 7 (pv 7)) j_anW))) j_an)))))))))))))))))) : PSs _ _ (tS _ F0 α0 H g__law_book))
abbrev s__law_is_number : Stmt := top 25
abbrev N__law_is_number : List Str := ["_law_thing"]
theorem sc__law_is_number : FnScope N__law_is_number ["_law_thing"] (defScope s__law_is_number) := ⟨rfl, rfl, rfl, by decide +kernel, rfl, by decide +kernel, by decide +kernel⟩
def g__law_is_number : GS := (sRet (eAnd (e1 (gIsi .int) (eP 0)) (eAnd (eNot (e1 (gIsi .bool) (eP 0))) (e2 gGe (eP 0) (eC (.int 0))))))
def f__law_is_number : FN := runDef 1 g__law_is_number
theorem ok__law_is_number {P : Program} {w : World} {K : PySem.W.Frag} {mg : Str → Option Value} {base : Heap} (h : Here K mg "_law_is_number" "_law_is_number" s__law_is_number ["_law_thing"]) (T : Txt K mg) : Does P w K mg base 1 "_law_is_number" ["_law_thing"] f__law_is_number :=
  does_of h sc__law_is_number fun fa cdv A outer s H E F0 α0 hr => ((j_last (j_ret (j_andV (j_isi (T := .int) (pe_callB call_isi (by rfl) T.b_isinstance (by decide +kernel) (pa_cons (j_peek 0 (pv 0)) (pa_cons (pe_bltn (by rfl) T.b_int (by decide +kernel) rfl) pa_nil)))) (j_andV (j_notV (j_isi (T := .bool) (pe_callB call_isi (by rfl) T.b_isinstance (by decide +kernel) (pa_cons (j_peek 0 (pv 0)) (pa_cons (pe_bltn (by rfl) T.b_bool (by decide +kernel) rfl) pa_nil))))) (j_one (j_op sp_ord (pe_cmpR op_geJ (j_peek 0 (pv 0)) (vw (j_c pe_int (.int 0))) (nomark _)))))))) : PSs _ _ (tS _ F0 α0 H g__law_is_number))
abbrev s__law_is_name : Stmt := top 26
abbrev N__law_is_name : List Str := ["_law_thing", "_law_signs", "_law_sign"]
theorem sc__law_is_name : FnScope N__law_is_name ["_law_thing"] (defScope s__law_is_name) := ⟨rfl, rfl, rfl, by decide +kernel, rfl, by decide +kernel, by decide +kernel⟩
def g__law_is_name : GS := (sSeq (sSet (eC (.str ("abcdefghijklmnopqrstuvwxyz0123456789" : Str))) (bName 1)) (sSeq (sIf (tOrJ (tNotJ (tTru (e1 (gIsi .str) (eP 0)))) (tNotJ (tOf (eCh gLe gLe (eC (.int 1)) (aG gLen (aC (eP 0) aN)) (eC (.int 8)))))) (sRet (eC (.bl false))) sNil) (sRet (eAnd (e2 (gIn false) (e2 gIx (eP 0) (eC (.int 0))) (eSl (eP 1) oN (oS (eC (.int 26))))) (e2 (gEq false) (eL (lComp [2] (iOf (eP 0)) (bName 2) (tOf (e2 (gIn true) (eP 2) (eP 1))) (eV 2))) (eL (lDisp aN)))))))
def f__law_is_name : FN := runDef 3 g__law_is_name
theorem ok__law_is_name {P : Program} {w : World} {K : PySem.W.Frag} {mg : Str → Option Value} {base : Heap} (h : Here K mg "_law_is_name" "_law_is_name" s__law_is_name ["_law_thing"]) (T : Txt K mg) : Does P w K mg base 1 "_law_is_name" ["_law_thing"] f__law_is_name :=
  does_of h sc__law_is_name fun fa cdv A outer s H E F0 α0 hr => ((j_seq (j_asg (sg_name (i := 1) (vs := [1]) (by decide)) (ps_set (i := 1) sc__law_is_name.nd rfl (Or.inr rfl) (j_c pe_str (.str ("abcdefghijklmnopqrstuvwxyz0123456789" : Str))))) (j_seq (j_ifS (PW.pt (j_or (j_not (j_tru (vw (j_isi (T := .str) (pe_callB call_isi (by rfl) T.b_isinstance (by decide +kernel) (pa_cons (j_peek 0 (pv 0)) (pa_cons (pe_bltn (by rfl) T.b_str (by decide +kernel) rfl) pa_nil))))))) (j_or1 (j_not (j_chT sp_ord sp_ord (pt_chain op_leJ op_leJ (vw (j_c pe_int (.int 1))) (vw (j_cb sp_len (pe_callB call_lenJ (by rfl) T.b_len PySem.boot_len (j_acW (j_peek 0 (pv 0)) j_anW)))) (vw (j_c pe_int (.int 8))))))))) (j_last (j_ret (j_c pe_bl (.bl false)))) j_nil) (j_last (j_ret (j_andV (j_op sp_in (pe_cmpR (op_inJ (hu65 hr)) (vw (j_op sp_ix (pe_ix ix_seq (j_peek 0 (pv 0)) (vw (j_c pe_int (.int 0))) (fun _ _ => rfl)))) (vw (j_sl (j_peek 1 (pv 1)) j_oN (j_oS (j_c pe_int (.int 26))))) (by with_unfolding_all rfl))) (j_one (j_op sp_eq (pe_cmpR (op_eqD hr.units) (lw (j_comp (sg_name (i := 2) (vs := [2]) (by decide)) (pe_lc (own := [("_law_sign", 2)]) (g := (gName 2)) (tt := tT _ (tOf (e2 (gIn true) (eP 2) (eP 1)))) (te := tV _ (eV 2)) (by rfl) sc__law_is_name.nd (j_itW (j_peek 0 (pv 0))) (blkOk_by (own := [("_law_sign", 2)]) (N := N__law_is_name) (sc := (defScope s__law_is_name)) (by decide +kernel)) (fun _ _ _ _ _ => (pg_name (i := 2) sc__law_is_name.nd rfl (Or.inl rfl))) (fun _ _ _ _ _ => (pts_one (j_cmpT sp_in (pt_cmpR (op_notInJ (hu65 hr)) (j_peek 2 (pv 2)) (j_peek 1 (pv 1)) (by with_unfolding_all rfl))))) (fun _ _ _ _ _ => (j_var 2 (pv 2)))))) (lw (j_disp j_an)) (nomark _))))))))) : PSs _ _ (tS _ F0 α0 H g__law_is_name))
abbrev s__law_are_names : Stmt := top 27
abbrev N__law_are_names : List Str := ["_law_thing", "_law_name"]
theorem sc__law_are_names : FnScope N__law_are_names ["_law_thing"] (defScope s__law_are_names) := ⟨rfl, rfl, rfl, by decide +kernel, rfl, by decide +kernel, by decide +kernel⟩
def g__law_are_names : GS := (sRet (eAnd (e1 (gIsi .tuple) (eP 0)) (e2 (gEq false) (eL (lComp [1] (iOf (eP 0)) (bName 1) (tNotJ (tTru (eCall f__law_is_name (aC (eV 1) aN)))) (eV 1))) (eL (lDisp aN)))))
def f__law_are_names : FN := runDef 2 g__law_are_names
theorem ok__law_are_names {P : Program} {w : World} {K : PySem.W.Frag} {mg : Str → Option Value} {base : Heap} (h : Here K mg "_law_are_names" "_law_are_names" s__law_are_names ["_law_thing"]) (T : Txt K mg) (d__law_is_name : Does P w K mg base 1 "_law_is_name" ["_law_thing"] f__law_is_name) : Does P w K mg base 2 "_law_are_names" ["_law_thing"] f__law_are_names :=
  does_of h sc__law_are_names fun fa cdv A outer s H E F0 α0 hr => ((j_last (j_ret (j_andV (j_isi (T := .tuple) (pe_callB call_isi (by rfl) T.b_isinstance (by decide +kernel) (pa_cons (j_peek 0 (pv 0)) (pa_cons (pe_bltn (by rfl) T.b_tuple (by decide +kernel) rfl) pa_nil)))) (j_one (j_op sp_eq (pe_cmpR (op_eqD hr.units) (lw (j_comp (sg_name (i := 1) (vs := [1]) (by decide)) (pe_lc (own := [("_law_name", 1)]) (g := (gName 1)) (tt := tT _ (tNotJ (tTru (eCall f__law_is_name (aC (eV 1) aN))))) (te := tV _ (eV 1)) (by rfl) sc__law_are_names.nd (j_itW (j_peek 0 (pv 0))) (blkOk_by (own := [("_law_name", 1)]) (N := N__law_are_names) (sc := (defScope s__law_are_names)) (by decide +kernel)) (fun _ _ _ _ _ => (pg_name (i := 1) sc__law_are_names.nd rfl (Or.inl rfl))) (fun _ _ _ _ _ => (pts_one (j_not (j_tru (vw (j_callD d__law_is_name hr (by decide) (by rfl) (j_ac (j_var 1 (pv 1)) j_an) (fun ρ S ds S' z => len_1 z) rfl)))))) (fun _ _ _ _ _ => (j_var 1 (pv 1)))))) (lw (j_disp j_an)) (nomark _))))))) : PSs _ _ (tS _ F0 α0 H g__law_are_names))
abbrev s__law_is_set : Stmt := top 28
abbrev N__law_is_set : List Str := ["_law_thing", "_law_k"]
theorem sc__law_is_set : FnScope N__law_is_set ["_law_thing"] (defScope s__law_is_set) := ⟨rfl, rfl, rfl, by decide +kernel, rfl, by decide +kernel, by decide +kernel⟩
def g__law_is_set : GS := (sSeq (sIf (tNotJ (tTru (eCall f__law_are_names (aC (eV 0) aN)))) (sRet (eC (.bl false))) sNil) (sRet (e2 (gEq false) (eL (lComp [1] (iRg2 (aC (eC (.int 1)) (aC (aG gLen (aC (eP 0) aN)) aN))) (bName 1) (tOf (e2 gGe (e2 gIx (eP 0) (e2 (gI0 fun i j => i - j) (eP 1) (eC (.int 1)))) (e2 gIx (eP 0) (eP 1)))) (eV 1))) (eL (lDisp aN)))))
def f__law_is_set : FN := runDef 2 g__law_is_set
theorem ok__law_is_set {P : Program} {w : World} {K : PySem.W.Frag} {mg : Str → Option Value} {base : Heap} (h : Here K mg "_law_is_set" "_law_is_set" s__law_is_set ["_law_thing"]) (T : Txt K mg) (d__law_are_names : Does P w K mg base 2 "_law_are_names" ["_law_thing"] f__law_are_names) : Does P w K mg base 3 "_law_is_set" ["_law_thing"] f__law_is_set :=
  does_of h sc__law_is_set fun fa cdv A outer s H E F0 α0 hr => ((j_seq (j_ifS (j_not (j_tru (vw (j_callD d__law_are_names hr (by decide) (by rfl) (j_ac (j_var 0 (pv 0)) j_an) (fun ρ S ds S' z => len_1 z) rfl)))) (j_last (j_ret (j_c pe_bl (.bl false)))) j_nil) (j_last (j_ret (j_op sp_eq (pe_cmpR (op_eqD hr.units) (lw (j_comp (sg_name (i := 1) (vs := [1]) (by decide)) (pe_lc (own := [("_law_k", 1)]) (g := (gName 1)) (tt := tT _ (tOf (e2 gGe (e2 gIx (eP 0) (e2 (gI0 fun i j => i - j) (eP 1) (eC (.int 1)))) (e2 gIx (eP 0) (eP 1))))) (te := tV _ (eV 1)) (by rfl) sc__law_is_set.nd (j_iw (j_rg2 (pi_range2 (by rfl) T.b_range (j_acW (vw (j_c pe_int (.int 1))) (j_acW (vw (j_cb sp_len (pe_callB call_lenJ (by rfl) T.b_len PySem.boot_len (j_acW (j_peek 0 (pv 0)) j_anW)))) j_anW))))) (blkOk_by (own := [("_law_k", 1)]) (N := N__law_is_set) (sc := (defScope s__law_is_set)) (by decide +kernel)) (fun _ _ _ _ _ => (pg_name (i := 1) sc__law_is_set.nd rfl (Or.inl rfl))) (fun _ _ _ _ _ => (pts_one (j_cmpT sp_ord (pt_cmpR op_geJ (vw (j_op sp_ix (pe_ix ix_seq (j_peek 0 (pv 0)) (vw (j_op sp_I0 (pe_op op_sub (j_peek 1 (pv 1)) (vw (j_c pe_int (.int 1)))))) (fun _ _ => rfl)))) (vw (j_op sp_ix (pe_ix ix_seq (j_peek 0 (pv 0)) (j_peek 1 (pv 1)) (fun _ _ => rfl)))) (nomark _))))) (fun _ _ _ _ _ => (j_var 1 (pv 1)))))) (lw (j_disp j_an)) (nomark _)))))) : PSs _ _ (tS _ F0 α0 H g__law_is_set))
abbrev s__law_is_source : Stmt := top 29
abbrev N__law_is_source : List Str := ["_law_thing"]
theorem sc__law_is_source : FnScope N__law_is_source ["_law_thing"] (defScope s__law_is_source) := ⟨rfl, rfl, rfl, by decide +kernel, rfl, by decide +kernel, by decide +kernel⟩
def g__law_is_source : GS := (sSeq (sIf (tOrJ (tNotJ (tTru (e1 (gIsi .tuple) (eP 0)))) (tOrJ (tOf (e2 (gEq true) (aG gLen (aC (eP 0) aN)) (eC (.int 5)))) (tNotJ (tTru (eCall f__law_are_names (aC (eSl (eP 0) oN (oS (eC (.int 2)))) aN)))))) (sRet (eC (.bl false))) sNil) (sRet (eAnd (eCall f__law_is_set (aC (e2 gIx (eP 0) (eC (.int 2))) aN)) (eAnd (e1 (gIsi .bool) (e2 gIx (eP 0) (eC (.int 3)))) (eCall f__law_is_set (aC (e2 gIx (eP 0) (eC (.int 4))) aN))))))
def f__law_is_source : FN := runDef 1 g__law_is_source
theorem ok__law_is_source {P : Program} {w : World} {K : PySem.W.Frag} {mg : Str → Option Value} {base : Heap} (h : Here K mg "_law_is_source" "_law_is_source" s__law_is_source ["_law_thing"]) (T : Txt K mg) (d__law_are_names : Does P w K mg base 2 "_law_are_names" ["_law_thing"] f__law_are_names) (d__law_is_set : Does P w K mg base 3 "_law_is_set" ["_law_thing"] f__law_is_set) : Does P w K mg base 4 "_law_is_source" ["_law_thing"] f__law_is_source :=
  does_of h sc__law_is_source fun fa cdv A outer s H E F0 α0 hr => ((j_seq (j_ifS (PW.pt (j_or (j_not (j_tru (vw (j_isi (T := .tuple) (pe_callB call_isi (by rfl) T.b_isinstance (by decide +kernel) (pa_cons (j_peek 0 (pv 0)) (pa_cons (pe_bltn (by rfl) T.b_tuple (by decide +kernel) rfl) pa_nil))))))) (j_or (j_cmpT sp_ne (pt_cmpR (op_neD hr.units) (vw (j_cb sp_len (pe_callB call_lenJ (by rfl) T.b_len PySem.boot_len (j_acW (j_peek 0 (pv 0)) j_anW)))) (vw (j_c pe_int (.int 5))) (nomark _))) (j_or1 (j_not (j_tru (vw (j_callD d__law_are_names hr (by decide) (by rfl) (j_ac (j_sl (j_peek 0 (pv 0)) j_oN (j_oS (j_c pe_int (.int 2)))) j_an) (fun ρ S ds S' z => len_1 z) rfl)))))))) (j_last (j_ret (j_c pe_bl (.bl false)))) j_nil) (j_last (j_ret (j_andV (j_callD d__law_is_set hr (by decide) (by rfl) (j_ac (j_op sp_ix (pe_ix ix_seq (j_peek 0 (pv 0)) (vw (j_c pe_int (.int 2))) (fun _ _ => rfl))) j_an) (fun ρ S ds S' z => len_1 z) rfl) (j_andV (j_isi (T := .bool) (pe_callB call_isi (by rfl) T.b_isinstance (by decide +kernel) (pa_cons (vw (j_op sp_ix (pe_ix ix_seq (j_peek 0 (pv 0)) (vw (j_c pe_int (.int 3))) (fun _ _ => rfl)))) (pa_cons (pe_bltn (by rfl) T.b_bool (by decide +kernel) rfl) pa_nil)))) (j_one (j_callD d__law_is_set hr (by decide) (by rfl) (j_ac (j_op sp_ix (pe_ix ix_seq (j_peek 0 (pv 0)) (vw (j_c pe_int (.int 4))) (fun _ _ => rfl))) j_an) (fun ρ S ds S' z => len_1 z) rfl))))))) : PSs _ _ (tS _ F0 α0 H g__law_is_source))
abbrev s__law_is_party : Stmt := top 30
abbrev N__law_is_party : List Str := ["_law_thing"]
theorem sc__law_is_party : FnScope N__law_is_party ["_law_thing"] (defScope s__law_is_party) := ⟨rfl, rfl, rfl, by decide +kernel, rfl, by decide +kernel, by decide +kernel⟩
def g__law_is_party : GS := (sSeq (sIf (tOrJ (tNotJ (tTru (e1 (gIsi .tuple) (eP 0)))) (tOrJ (tOf (e2 (gEq true) (aG gLen (aC (eP 0) aN)) (eC (.int 2)))) (tNotJ (tTru (eCall f__law_is_name (aC (e2 gIx (eP 0) (eC (.int 0))) aN)))))) (sRet (eC (.bl false))) sNil) (sRet (eAnd (eCall f__law_is_number (aC (e2 gIx (eP 0) (eC (.int 1))) aN)) (e2 gGt (e2 gIx (eP 0) (eC (.int 1))) (eC (.int 0))))))
def f__law_is_party : FN := runDef 1 g__law_is_party
theorem ok__law_is_party {P : Program} {w : World} {K : PySem.W.Frag} {mg : Str → Option Value} {base : Heap} (h : Here K mg "_law_is_party" "_law_is_party" s__law_is_party ["_law_thing"]) (T : Txt K mg) (d__law_is_name : Does P w K mg base 1 "_law_is_name" ["_law_thing"] f__law_is_name) (d__law_is_number : Does P w K mg base 1 "_law_is_number" ["_law_thing"] f__law_is_number) : Does P w K mg base 2 "_law_is_party" ["_law_thing"] f__law_is_party :=
  does_of h sc__law_is_party fun fa cdv A outer s H E F0 α0 hr => ((j_seq (j_ifS (PW.pt (j_or (j_not (j_tru (vw (j_isi (T := .tuple) (pe_callB call_isi (by rfl) T.b_isinstance (by decide +kernel) (pa_cons (j_peek 0 (pv 0)) (pa_cons (pe_bltn (by rfl) T.b_tuple (by decide +kernel) rfl) pa_nil))))))) (j_or (j_cmpT sp_ne (pt_cmpR (op_neD hr.units) (vw (j_cb sp_len (pe_callB call_lenJ (by rfl) T.b_len PySem.boot_len (j_acW (j_peek 0 (pv 0)) j_anW)))) (vw (j_c pe_int (.int 2))) (nomark _))) (j_or1 (j_not (j_tru (vw (j_callD d__law_is_name hr (by decide) (by rfl) (j_ac (j_op sp_ix (pe_ix ix_seq (j_peek 0 (pv 0)) (vw (j_c pe_int (.int 0))) (fun _ _ => rfl))) j_an) (fun ρ S ds S' z => len_1 z) rfl)))))))) (j_last (j_ret (j_c pe_bl (.bl false)))) j_nil) (j_last (j_ret (j_andV (j_callD d__law_is_number hr (by decide) (by rfl) (j_ac (j_op sp_ix (pe_ix ix_seq (j_peek 0 (pv 0)) (vw (j_c pe_int (.int 1))) (fun _ _ => rfl))) j_an) (fun ρ S ds S' z => len_1 z) rfl) (j_one (j_op sp_gt (pe_cmpR op_gtJ (vw (j_op sp_ix (pe_ix ix_seq (j_peek 0 (pv 0)) (vw (j_c pe_int (.int 1))) (fun _ _ => rfl)))) (vw (j_c pe_int (.int 0))) (nomark _)))))))) : PSs _ _ (tS _ F0 α0 H g__law_is_party))
abbrev s__law_is_build : Stmt := top 31
abbrev N__law_is_build : List Str := ["_law_thing"]
theorem sc__law_is_build : FnScope N__law_is_build ["_law_thing"] (defScope s__law_is_build) := ⟨rfl, rfl, rfl, by decide +kernel, rfl, by decide +kernel, by decide +kernel⟩
def g__law_is_build : GS := (sSeq (sIf (tOrJ (tNotJ (tTru (e1 (gIsi .tuple) (eP 0)))) (tOrJ (tOf (e2 (gEq true) (aG gLen (aC (eP 0) aN)) (eC (.int 5)))) (tNotJ (tTru (eCall f__law_are_names (aC (e2 gIx (eP 0) (eC (.int 3))) aN)))))) (sRet (eC (.bl false))) sNil) (sSeq (sIf (tOrJ (tNotJ (tTru (eCall f__law_is_name (aC (e2 gIx (eP 0) (eC (.int 0))) aN)))) (tOrJ (tNotJ (tTru (eCall f__law_is_name (aC (e2 gIx (eP 0) (eC (.int 2))) aN)))) (tNotJ (tTru (eCall f__law_is_name (aC (e2 gIx (eP 0) (eC (.int 4))) aN)))))) (sRet (eC (.bl false))) sNil) (sRet (eIf (tOf (e2 (gIs false) (e2 gIx (eP 0) (eC (.int 1))) (eC .non))) (e2 (gEq false) (e2 gIx (eP 0) (eC (.int 3))) (eTup aN)) (eCall f__law_is_name (aC (e2 gIx (eP 0) (eC (.int 1))) aN))))))
def f__law_is_build : FN := runDef 1 g__law_is_build
theorem ok__law_is_build {P : Program} {w : World} {K : PySem.W.Frag} {mg : Str → Option Value} {base : Heap} (h : Here K mg "_law_is_build" "_law_is_build" s__law_is_build ["_law_thing"]) (T : Txt K mg) (d__law_are_names : Does P w K mg base 2 "_law_are_names" ["_law_thing"] f__law_are_names) (d__law_is_name : Does P w K mg base 1 "_law_is_name" ["_law_thing"] f__law_is_name) : Does P w K mg base 3 "_law_is_build" ["_law_thing"] f__law_is_build :=
  does_of h sc__law_is_build fun fa cdv A outer s H E F0 α0 hr => ((j_seq (j_ifS (PW.pt (j_or (j_not (j_tru (vw (j_isi (T := .tuple) (pe_callB call_isi (by rfl) T.b_isinstance (by decide +kernel) (pa_cons (j_peek 0 (pv 0)) (pa_cons (pe_bltn (by rfl) T.b_tuple (by decide +kernel) rfl) pa_nil))))))) (j_or (j_cmpT sp_ne (pt_cmpR (op_neD hr.units) (vw (j_cb sp_len (pe_callB call_lenJ (by rfl) T.b_len PySem.boot_len (j_acW (j_peek 0 (pv 0)) j_anW)))) (vw (j_c pe_int (.int 5))) (nomark _))) (j_or1 (j_not (j_tru (vw (j_callD d__law_are_names hr (by decide) (by rfl) (j_ac (j_op sp_ix (pe_ix ix_seq (j_peek 0 (pv 0)) (vw (j_c pe_int (.int 3))) (fun _ _ => rfl))) j_an) (fun ρ S ds S' z => len_1 z) rfl)))))))) (j_last (j_ret (j_c pe_bl (.bl false)))) j_nil) (j_seq (j_ifS (PW.pt (j_or (j_not (j_tru (vw (j_callD d__law_is_name hr (by decide) (by rfl) (j_ac (j_op sp_ix (pe_ix ix_seq (j_peek 0 (pv 0)) (vw (j_c pe_int (.int 0))) (fun _ _ => rfl))) j_an) (fun ρ S ds S' z => len_1 z) rfl)))) (j_or (j_not (j_tru (vw (j_callD d__law_is_name hr (by decide) (by rfl) (j_ac (j_op sp_ix (pe_ix ix_seq (j_peek 0 (pv 0)) (vw (j_c pe_int (.int 2))) (fun _ _ => rfl))) j_an) (fun ρ S ds S' z => len_1 z) rfl)))) (j_or1 (j_not (j_tru (vw (j_callD d__law_is_name hr (by decide) (by rfl) (j_ac (j_op sp_ix (pe_ix ix_seq (j_peek 0 (pv 0)) (vw (j_c pe_int (.int 4))) (fun _ _ => rfl))) j_an) (fun ρ S ds S' z => len_1 z) rfl)))))))) (j_last (j_ret (j_c pe_bl (.bl false)))) j_nil) (j_last (j_ret (j_if (j_cmpT sp_is (pt_cmpR op_isN (vw (j_op sp_ix (pe_ix ix_seq (j_peek 0 (pv 0)) (vw (j_c pe_int (.int 1))) (fun _ _ => rfl)))) (vw (j_c pe_non .non)) (nomark _))) (j_op sp_eq (pe_cmpR (op_eqD hr.units) (vw (j_op sp_ix (pe_ix ix_seq (j_peek 0 (pv 0)) (vw (j_c pe_int (.int 3))) (fun _ _ => rfl)))) (vw (j_tup j_an)) (nomark _))) (j_callD d__law_is_name hr (by decide) (by rfl) (j_ac (j_op sp_ix (pe_ix ix_seq (j_peek 0 (pv 0)) (vw (j_c pe_int (.int 1))) (fun _ _ => rfl))) j_an) (fun ρ S ds S' z => len_1 z) rfl)))))) : PSs _ _ (tS _ F0 α0 H g__law_is_build))
abbrev s__law_is_pair : Stmt := top 32
abbrev N__law_is_pair : List Str := ["_law_thing"]
theorem sc__law_is_pair : FnScope N__law_is_pair ["_law_thing"] (defScope s__law_is_pair) := ⟨rfl, rfl, rfl, by decide +kernel, rfl, by decide +kernel, by decide +kernel⟩
def g__law_is_pair : GS := (sRet (eAnd (eCall f__law_are_names (aC (eV 0) aN)) (e2 (gEq false) (aG gLen (aC (eP 0) aN)) (eC (.int 2)))))
def f__law_is_pair : FN := runDef 1 g__law_is_pair
theorem ok__law_is_pair {P : Program} {w : World} {K : PySem.W.Frag} {mg : Str → Option Value} {base : Heap} (h : Here K mg "_law_is_pair" "_law_is_pair" s__law_is_pair ["_law_thing"]) (T : Txt K mg) (d__law_are_names : Does P w K mg base 2 "_law_are_names" ["_law_thing"] f__law_are_names) : Does P w K mg base 3 "_law_is_pair" ["_law_thing"] f__law_is_pair :=
  does_of h sc__law_is_pair fun fa cdv A outer s H E F0 α0 hr => ((j_last (j_ret (j_andV (j_callD d__law_are_names hr (by decide) (by rfl) (j_ac (j_var 0 (pv 0)) j_an) (fun ρ S ds S' z => len_1 z) rfl) (j_one (j_op sp_eq (pe_cmpR (op_eqD hr.units) (vw (j_cb sp_len (pe_callB call_lenJ (by rfl) T.b_len PySem.boot_len (j_acW (j_peek 0 (pv 0)) j_anW)))) (vw (j_c pe_int (.int 2))) (nomark _))))))) : PSs _ _ (tS _ F0 α0 H g__law_is_pair))
abbrev s__law_is_four : Stmt := top 33
abbrev N__law_is_four : List Str := ["_law_thing", "_law_part"]
theorem sc__law_is_four : FnScope N__law_is_four ["_law_thing"] (defScope s__law_is_four) := ⟨rfl, rfl, rfl, by decide +kernel, rfl, by decide +kernel, by decide +kernel⟩
def g__law_is_four : GS := (sSeq (sIf (tOrJ (tNotJ (tTru (e1 (gIsi .tuple) (eP 0)))) (tOf (e2 (gEq true) (aG gLen (aC (eP 0) aN)) (eC (.int 4))))) (sRet (eC (.bl false))) sNil) (sRet (e2 (gEq false) (eL (lComp [1] (iOf (eP 0)) (bName 1) (tNotJ (tTru (e1 (gIsi .tuple) (eP 1)))) (eV 1))) (eL (lDisp aN)))))
def f__law_is_four : FN := runDef 2 g__law_is_four
theorem ok__law_is_four {P : Program} {w : World} {K : PySem.W.Frag} {mg : Str → Option Value} {base : Heap} (h : Here K mg "_law_is_four" "_law_is_four" s__law_is_four ["_law_thing"]) (T : Txt K mg) : Does P w K mg base 1 "_law_is_four" ["_law_thing"] f__law_is_four :=
  does_of h sc__law_is_four fun fa cdv A outer s H E F0 α0 hr => ((j_seq (j_ifS (PW.pt (j_or (j_not (j_tru (vw (j_isi (T := .tuple) (pe_callB call_isi (by rfl) T.b_isinstance (by decide +kernel) (pa_cons (j_peek 0 (pv 0)) (pa_cons (pe_bltn (by rfl) T.b_tuple (by decide +kernel) rfl) pa_nil))))))) (j_or1 (j_cmpT sp_ne (pt_cmpR (op_neD hr.units) (vw (j_cb sp_len (pe_callB call_lenJ (by rfl) T.b_len PySem.boot_len (j_acW (j_peek 0 (pv 0)) j_anW)))) (vw (j_c pe_int (.int 4))) (nomark _)))))) (j_last (j_ret (j_c pe_bl (.bl false)))) j_nil) (j_last (j_ret (j_op sp_eq (pe_cmpR (op_eqD hr.units) (lw (j_comp (sg_name (i := 1) (vs := [1]) (by decide)) (pe_lc (own := [("_law_part", 1)]) (g := (gName 1)) (tt := tT _ (tNotJ (tTru (e1 (gIsi .tuple) (eP 1))))) (te := tV _ (eV 1)) (by rfl) sc__law_is_four.nd (j_itW (j_peek 0 (pv 0))) (blkOk_by (own := [("_law_part", 1)]) (N := N__law_is_four) (sc := (defScope s__law_is_four)) (by decide +kernel)) (fun _ _ _ _ _ => (pg_name (i := 1) sc__law_is_four.nd rfl (Or.inl rfl))) (fun _ _ _ _ _ => (pts_one (j_not (j_tru (vw (j_isi (T := .tuple) (pe_callB call_isi (by rfl) T.b_isinstance (by decide +kernel) (pa_cons (j_peek 1 (pv 1)) (pa_cons (pe_bltn (by rfl) T.b_tuple (by decide +kernel) rfl) pa_nil))))))))) (fun _ _ _ _ _ => (j_var 1 (pv 1)))))) (lw (j_disp j_an)) (nomark _)))))) : PSs _ _ (tS _ F0 α0 H g__law_is_four))
abbrev s__law_is_book : Stmt := top 34
abbrev N__law_is_book : List Str := ["_law_thing", "_law_odd_here", "_law_one"]
theorem sc__law_is_book : FnScope N__law_is_book ["_law_thing"] (defScope s__law_is_book) := ⟨rfl, rfl, rfl, by decide +kernel, rfl, by decide +kernel, by decide +kernel⟩
def g__law_is_book : GS := (sSeq (sIf (tNotJ (tTru (eCall f__law_is_four (aC (eV 0) aN)))) (sRet (eC (.bl false))) sNil) (sSeq (sSetL 1 (lComp [2] (iOf (e2 gIx (eP 0) (eC (.int 0)))) (bName 2) (tNotJ (tTru (eCall f__law_is_source (aC (eV 2) aN)))) (eV 2))) (sSeq (sExt 1 (eL (lComp [2] (iOf (e2 gIx (eP 0) (eC (.int 1)))) (bName 2) (tNotJ (tTru (eCall f__law_is_party (aC (eV 2) aN)))) (eV 2)))) (sSeq (sExt 1 (eL (lComp [2] (iOf (e2 gIx (eP 0) (eC (.int 2)))) (bName 2) (tNotJ (tTru (eCall f__law_is_pair (aC (eV 2) aN)))) (eV 2)))) (sSeq (sExt 1 (eL (lComp [2] (iOf (e2 gIx (eP 0) (eC (.int 3)))) (bName 2) (tNotJ (tTru (eCall f__law_is_build (aC (eV 2) aN)))) (eV 2)))) (sRet (e2 (gEq false) (aG gLen (aC (eP 1) aN)) (eC (.int 0)))))))))
def f__law_is_book : FN := runDef 3 g__law_is_book
theorem ok__law_is_book {P : Program} {w : World} {K : PySem.W.Frag} {mg : Str → Option Value} {base : Heap} (h : Here K mg "_law_is_book" "_law_is_book" s__law_is_book ["_law_thing"]) (T : Txt K mg) (d__law_is_four : Does P w K mg base 1 "_law_is_four" ["_law_thing"] f__law_is_four) (d__law_is_source : Does P w K mg base 4 "_law_is_source" ["_law_thing"] f__law_is_source) (d__law_is_party : Does P w K mg base 2 "_law_is_party" ["_law_thing"] f__law_is_party) (d__law_is_pair : Does P w K mg base 3 "_law_is_pair" ["_law_thing"] f__law_is_pair) (d__law_is_build : Does P w K mg base 3 "_law_is_build" ["_law_thing"] f__law_is_build) : Does P w K mg base 5 "_law_is_book" ["_law_thing"] f__law_is_book :=
  does_of h sc__law_is_book fun fa cdv A outer s H E F0 α0 hr => ((j_seq (j_ifS (j_not (j_tru (vw (j_callD d__law_is_four hr (by decide) (by rfl) (j_ac (j_var 0 (pv 0)) j_an) (fun ρ S ds S' z => len_1 z) rfl)))) (j_last (j_ret (j_c pe_bl (.bl false)))) j_nil) (j_seq (j_setL (j_setC (sg_name (i := 2) (vs := [2]) (by decide)) (ps_setLc (i := 1) (own := [("_law_one", 2)]) (g := (gName 2)) (tt := tT _ (tNotJ (tTru (eCall f__law_is_source (aC (eV 2) aN))))) (te := tV _ (eV 2)) (by rfl) sc__law_is_book.nd rfl rfl (sw_true rfl rfl rfl (by decide +kernel)) (j_itW (vw (j_op sp_ix (pe_ix ix_seq (j_peek 0 (pv 0)) (vw (j_c pe_int (.int 0))) (fun _ _ => rfl))))) (blkOk_by (own := [("_law_one", 2)]) (N := N__law_is_book) (sc := (defScope s__law_is_book)) (by decide +kernel)) (fun _ _ _ _ _ => (pg_name (i := 2) sc__law_is_book.nd rfl (Or.inl rfl))) (fun _ _ _ _ _ => (pts_one (j_not (j_tru (vw (j_callD d__law_is_source hr (by decide) (by rfl) (j_ac (j_var 2 (pv 2)) j_an) (fun ρ S ds S' z => len_1 z) rfl)))))) (fun _ _ _ _ _ => (j_var 2 (pv 2)))))) (j_seq (j_ext (ps_expr (pe_bm PySem.F.plainAttrs_list PySem.F.slot_list_extend PySem.F.type_list_extend mt_extend (pv 1) (pa_cons (lw (j_comp (sg_name (i := 2) (vs := [2]) (by decide)) (pe_lc (own := [("_law_one", 2)]) (g := (gName 2)) (tt := tT _ (tNotJ (tTru (eCall f__law_is_party (aC (eV 2) aN))))) (te := tV _ (eV 2)) (by rfl) sc__law_is_book.nd (j_itW (vw (j_op sp_ix (pe_ix ix_seq (j_peek 0 (pv 0)) (vw (j_c pe_int (.int 1))) (fun _ _ => rfl))))) (blkOk_by (own := [("_law_one", 2)]) (N := N__law_is_book) (sc := (defScope s__law_is_book)) (by decide +kernel)) (fun _ _ _ _ _ => (pg_name (i := 2) sc__law_is_book.nd rfl (Or.inl rfl))) (fun _ _ _ _ _ => (pts_one (j_not (j_tru (vw (j_callD d__law_is_party hr (by decide) (by rfl) (j_ac (j_var 2 (pv 2)) j_an) (fun ρ S ds S' z => len_1 z) rfl)))))) (fun _ _ _ _ _ => (j_var 2 (pv 2)))))) pa_nil)))) (j_seq (j_ext (ps_expr (pe_bm PySem.F.plainAttrs_list PySem.F.slot_list_extend PySem.F.type_list_extend mt_extend (pv 1) (pa_cons (lw (j_comp (sg_name (i := 2) (vs := [2]) (by decide)) (pe_lc (own := [("_law_one", 2)]) (g := (gName 2)) (tt := tT _ (tNotJ (tTru (eCall f__law_is_pair (aC (eV 2) aN))))) (te := tV _ (eV 2)) (by rfl) sc__law_is_book.nd (j_itW (vw (j_op sp_ix (pe_ix ix_seq (j_peek 0 (pv 0)) (vw (j_c pe_int (.int 2))) (fun _ _ => rfl))))) (blkOk_by (own := [("_law_one", 2)]) (N := N__law_is_book) (sc := (defScope s__law_is_book)) (by decide +kernel)) (fun _ _ _ _ _ => (pg_name (i := 2) sc__law_is_book.nd rfl (Or.inl rfl))) (fun _ _ _ _ _ => (pts_one (j_not (j_tru (vw (j_callD d__law_is_pair hr (by decide) (by rfl) (j_ac (j_var 2 (pv 2)) j_an) (fun ρ S ds S' z => len_1 z) rfl)))))) (fun _ _ _ _ _ => (j_var 2 (pv 2)))))) pa_nil)))) (j_seq (j_ext (ps_expr (pe_bm PySem.F.plainAttrs_list PySem.F.slot_list_extend PySem.F.type_list_extend mt_extend (pv 1) (pa_cons (lw (j_comp (sg_name (i := 2) (vs := [2]) (by decide)) (pe_lc (own := [("_law_one", 2)]) (g := (gName 2)) (tt := tT _ (tNotJ (tTru (eCall f__law_is_build (aC (eV 2) aN))))) (te := tV _ (eV 2)) (by rfl) sc__law_is_book.nd (j_itW (vw (j_op sp_ix (pe_ix ix_seq (j_peek 0 (pv 0)) (vw (j_c pe_int (.int 3))) (fun _ _ => rfl))))) (blkOk_by (own := [("_law_one", 2)]) (N := N__law_is_book) (sc := (defScope s__law_is_book)) (by decide +kernel)) (fun _ _ _ _ _ => (pg_name (i := 2) sc__law_is_book.nd rfl (Or.inl rfl))) (fun _ _ _ _ _ => (pts_one (j_not (j_tru (vw (j_callD d__law_is_build hr (by decide) (by rfl) (j_ac (j_var 2 (pv 2)) j_an) (fun ρ S ds S' z => len_1 z) rfl)))))) (fun _ _ _ _ _ => (j_var 2 (pv 2)))))) pa_nil)))) (j_last (j_ret (j_op sp_eq (pe_cmpR (op_eqD hr.units) (vw (j_cb sp_len (pe_callB call_lenJ (by rfl) T.b_len PySem.boot_len (j_acW (j_peek 1 (pv 1)) j_anW)))) (vw (j_c pe_int (.int 0))) (nomark _)))))))))) : PSs _ _ (tS _ F0 α0 H g__law_is_book))
abbrev s__law_odd : Stmt := top 35
abbrev N__law_odd : List Str := ["_law_feed_here", "_law_odd_here"]
theorem sc__law_odd : FnScope N__law_odd ["_law_feed_here"] (defScope s__law_odd) := ⟨rfl, rfl, rfl, by decide +kernel, rfl, by decide +kernel, by decide +kernel⟩
def g__law_odd : GS := (sSeq (sSetL 1 (lDisp (aC (eC .non) (aC (eC (.bl true)) (aC (eC (.bl false)) (aC (eC (.int 0)) (aC (eC (.int 1)) (aC (e1 gNeg (eC (.int 1))) (aC (eC (.int 2)) (aC (e2 (gI CPow fun i j => i ^ j.toNat) (eC (.int 10)) (eC (.int 59))) (aC (eC (.str ("" : Str))) (aC (eC (.str ("a" : Str))) (aC (eC (.str ("b9" : Str))) (aC (eC (.str ("9a" : Str))) (aC (eC (.str ("A" : Str))) (aC (eC (.str ("abcdefgh" : Str))) (aC (eC (.str ("abcdefghi" : Str))) aN))))))))))))))))) (sSeq (sExt 1 (eL (lDisp (aC (eC (.str ("a b" : Str))) (aC (eC (.str ("-" : Str))) (aC (eC (.str ("a-" : Str))) (aC (eTup aN) (aC (eTup (aC (eC (.str ("a" : Str))) aN)) (aC (eTup (aC (eC (.str ("a" : Str))) (aC (eC (.str ("b" : Str))) aN))) (aC (eTup (aC (eC (.str ("b" : Str))) (aC (eC (.str ("a" : Str))) aN))) (aC (eTup (aC (eC (.str ("a" : Str))) (aC (eC (.str ("a" : Str))) aN))) (aC (eL (lDisp aN)) (aC (eL (lDisp (aC (eC (.str ("a" : Str))) aN))) (aC (eTup (aC (eC (.int 1)) aN)) (aC (eTup (aC (eTup aN) aN)) aN))))))))))))))) (sSeq (sExt 1 (eL (lDisp (aC (eTup (aC (eC (.str ("a" : Str))) (aC (eC (.int 1)) aN))) (aC (eTup (aC (eC (.str ("a" : Str))) (aC (eC (.bl true)) aN))) (aC (eTup (aC (eC (.str ("a" : Str))) (aC (eC (.int 0)) aN))) (aC (eC (.str ("a\n" : Str))) (aC (eC (.str ("a_b" : Str))) (aC (eC (.str ("a,b" : Str))) (aC (eTup (aC (eC (.str ("a" : Str))) (aC (eC .non) aN))) (aC (eTup (aC (eC (.str ("a" : Str))) (aC (eC (.str ("b" : Str))) (aC (eC (.str ("c" : Str))) aN)))) aN))))))))))) (sRet (eCall f__law_pick (aC (eV 0) (aC (eL (l2 gCatL (eP 1) (eL (lDisp (aC (eTup (aC (eTup (aC (eC (.str ("a" : Str))) (aC (eC (.str ("b" : Str))) aN))) aN)) (aC (eC (.str ("0" : Str))) (aC (eC (.str ("zzzzzzzz" : Str))) (aC (eTup (aC (eC (.str ("zzzzzzzz" : Str))) aN)) (aC (eL (lDisp (aC (eTup aN) aN))) aN))))))))) aN)))))))
def f__law_odd : FN := runDef 2 g__law_odd
theorem ok__law_odd {P : Program} {w : World} {K : PySem.W.Frag} {mg : Str → Option Value} {base : Heap} (h : Here K mg "_law_odd" "_law_odd" s__law_odd ["_law_feed_here"]) (T : Txt K mg) (d__law_pick : Does P w K mg base 2 "_law_pick" ["_law_feed_here", "_law_things"] f__law_pick) : Does P w K mg base 3 "_law_odd" ["_law_feed_here"] f__law_odd :=
  does_of h sc__law_odd fun fa cdv A outer s H E F0 α0 hr => ((j_seq (j_setL (ps_set (i := 1) sc__law_odd.nd rfl (Or.inl rfl) (j_disp (j_ac (j_c pe_non .non) (j_ac (j_c pe_bl (.bl true)) (j_ac (j_c pe_bl (.bl false)) (j_ac (j_c pe_int (.int 0)) (j_ac (j_c pe_int (.int 1)) (j_ac (j_un sp_neg (pe_un un_neg (vw (j_c pe_int (.int 1))))) (j_ac (j_c pe_int (.int 2)) (j_ac (j_op sp_I (pe_op op_pow (vw (j_c pe_int (.int 10))) (vw (j_c pe_int (.int 59))))) (j_ac (j_c pe_str (.str ("" : Str))) (j_ac (j_c pe_str (.str ("a" : Str))) (j_ac (j_c pe_str (.str ("b9" : Str))) (j_ac (j_c pe_str (.str ("9a" : Str))) (j_ac (j_c pe_str (.str ("A" : Str))) (j_ac (j_c pe_str (.str ("abcdefgh" : Str))) (j_ac (j_c pe_str (.str ("abcdefghi" : Str))) j_an)))))))))))))))))) (j_seq (j_ext (ps_expr (pe_bm PySem.F.plainAttrs_list PySem.F.slot_list_extend PySem.F.type_list_extend mt_extend (pv 1) (pa_cons (lw (j_disp (j_ac (j_c pe_str (.str ("a b" : Str))) (j_ac (j_c pe_str (.str ("-" : Str))) (j_ac (j_c pe_str (.str ("a-" : Str))) (j_ac (j_tup j_an) (j_ac (j_tup (j_ac (j_c pe_str (.str ("a" : Str))) j_an)) (j_ac (j_tup (j_ac (j_c pe_str (.str ("a" : Str))) (j_ac (j_c pe_str (.str ("b" : Str))) j_an))) (j_ac (j_tup (j_ac (j_c pe_str (.str ("b" : Str))) (j_ac (j_c pe_str (.str ("a" : Str))) j_an))) (j_ac (j_tup (j_ac (j_c pe_str (.str ("a" : Str))) (j_ac (j_c pe_str (.str ("a" : Str))) j_an))) (j_ac (lv (j_disp j_an)) (j_ac (lv (j_disp (j_ac (j_c pe_str (.str ("a" : Str))) j_an))) (j_ac (j_tup (j_ac (j_c pe_int (.int 1)) j_an)) (j_ac (j_tup (j_ac (j_tup j_an) j_an)) j_an)))))))))))))) pa_nil)))) (j_seq (j_ext (ps_expr (pe_bm PySem.F.plainAttrs_list PySem.F.slot_list_extend PySem.F.type_list_extend mt_extend (pv 1) (pa_cons (lw (j_disp (j_ac (j_tup (j_ac (j_c pe_str (.str ("a" : Str))) (j_ac (j_c pe_int (.int 1)) j_an))) (j_ac (j_tup (j_ac (j_c pe_str (.str ("a" : Str))) (j_ac (j_c pe_bl (.bl true)) j_an))) (j_ac (j_tup (j_ac (j_c pe_str (.str ("a" : Str))) (j_ac (j_c pe_int (.int 0)) j_an))) (j_ac (j_c pe_str (.str ("a\n" : Str))) (j_ac (j_c pe_str (.str ("a_b" : Str))) (j_ac (j_c pe_str (.str ("a,b" : Str))) (j_ac (j_tup (j_ac (j_c pe_str (.str ("a" : Str))) (j_ac (j_c pe_non .non) j_an))) (j_ac (j_tup (j_ac (j_c pe_str (.str ("a" : Str))) (j_ac (j_c pe_str (.str ("b" : Str))) (j_ac (j_c pe_str (.str ("c" : Str))) j_an)))) j_an)))))))))) pa_nil)))) (j_last (j_ret (j_callD d__law_pick hr (by decide) (by rfl) (j_ac (j_var 0 (pv 0)) (j_ac (lv (j_opL sp_catL (pe_op op_addJ (j_peek 1 (pv 1)) (lw (j_disp (j_ac (j_tup (j_ac (j_tup (j_ac (j_c pe_str (.str ("a" : Str))) (j_ac (j_c pe_str (.str ("b" : Str))) j_an))) j_an)) (j_ac (j_c pe_str (.str ("0" : Str))) (j_ac (j_c pe_str (.str ("zzzzzzzz" : Str))) (j_ac (j_tup (j_ac (j_c pe_str (.str ("zzzzzzzz" : Str))) j_an)) (j_ac (lv (j_disp (j_ac (j_tup j_an) j_an))) j_an)))))))))) j_an)) (fun ρ S ds S' z => len_2 z) rfl)))))) : PSs _ _ (tS _ F0 α0 H g__law_odd))
abbrev s__law_bent : Stmt := top 36
abbrev N__law_bent : List Str := ["_law_feed_here", "_law_thing", "_law_size", "_law_k", "_law_way", "_law_middle", "_law_sign"]
theorem sc__law_bent : FnScope N__law_bent ["_law_feed_here", "_law_thing"] (defScope s__law_bent) := ⟨rfl, rfl, rfl, by decide +kernel, rfl, by decide +kernel, by decide +kernel⟩
def g__law_bent (rec__law_bent : FN) : GS := (sSeq (sSet (eIf (tTru (e1 (gIsi2 .tuple .str) (eP 1))) (aG gLen (aC (eP 1) aN)) (eC (.int 0))) (bName 2)) (sSeq (sIf (tAndJ (tTru (e1 (gIsi .tuple) (eP 1))) (tAndJ (tOf (e2 gGt (eP 2) (eC (.int 0)))) (tOf (e2 gGt (eCall f__law_draw (aC (eV 0) (aC (eC (.int 4)) aN))) (eC (.int 0)))))) (sSeq (sSet (eCall f__law_draw (aC (eV 0) (aC (eV 2) aN))) (bName 3)) (sRet (e2 gAdd (e2 gAdd (eSl (eP 1) oN (oS (eV 3))) (eTup (aC (eCall rec__law_bent (aC (eV 0) (aC (e2 gIx (eP 1) (eP 3)) aN))) aN))) (eSl (eP 1) (oS (e2 gAdd (eP 3) (eC (.int 1)))) oN)))) sNil) (sSeq (sPar [4, 3] (mD (eCall f__law_draw (aC (eV 0) (aC (eC (.int 7)) aN))) (mD (eCall f__law_draw (aC (eV 0) (aC (e2 gAdd (eP 2) (eC (.int 1))) aN))) mN))) (sSeq (sIf (tAndJ (tTru (e1 (gIsi .tuple) (eP 1))) (tOf (e2 (gEq false) (eP 4) (eC (.int 3))))) (sRet (eL (aGL gListL (aC (eP 1) aN)))) sNil) (sSeq (sIf (tAndJ (tTru (e1 (gIsi .tuple) (eP 1))) (tOf (e2 gLt (eP 4) (eC (.int 3))))) (sSeq (sSet (eL (lDisp (aC (eTup aN) (aC (e2 gAdd (eSl (eP 1) (oS (eV 3)) (oS (e2 gAdd (eP 3) (eC (.int 1))))) (eSl (eP 1) (oS (eV 3)) (oS (e2 gAdd (eP 3) (eC (.int 1)))))) (aC (e2 gAdd (eSl (eP 1) (oS (e2 gAdd (eP 3) (eC (.int 1)))) (oS (e2 gAdd (eP 3) (eC (.int 2))))) (eSl (eP 1) (oS (eV 3)) (oS (e2 gAdd (eP 3) (eC (.int 1)))))) aN))))) (bName 5)) (sRet (e2 gAdd (e2 gAdd (eSl (eP 1) oN (oS (eV 3))) (e2 gIx (eP 5) (eP 4))) (eSl (eP 1) (oS (e2 gAdd (eP 3) (e2 gIx (eL (lDisp (aC (eC (.int 1)) (aC (eC (.int 1)) (aC (eC (.int 2)) aN))))) (eP 4)))) oN)))) sNil) (sSeq (sIf (tAndJ (tTru (e1 (gIsi .str) (eP 1))) (tOf (e2 gLt (eP 4) (eC (.int 4))))) (sSeq (sSet (eCall f__law_pick (aC (eV 0) (aC (eL (lDisp (aC (eC (.str ("a" : Str))) (aC (eC (.str ("z" : Str))) (aC (eC (.str ("0" : Str))) (aC (eC (.str ("9" : Str))) (aC (eC (.str ("A" : Str))) (aC (eC (.str ("_" : Str))) (aC (eC (.str (" " : Str))) (aC (eC (.str ("-" : Str))) (aC (eC (.str ("" : Str))) aN))))))))))) aN))) (bName 6)) (sRet (e2 gAdd (e2 gAdd (eSl (eP 1) oN (oS (eV 3))) (eP 6)) (eSl (eP 1) (oS (e2 gAdd (eP 3) (e2 (gI CPos fun i j => i % j) (aG gInt (aC (eP 4) aN)) (eC (.int 2))))) oN)))) sNil) (sSeq (sIf (tAndJ (tTru (e1 (gIsi .int) (eP 1))) (tOf (e2 gLt (eP 4) (eC (.int 3))))) (sRet (e2 gIx (eL (lDisp (aC (e2 gAdd (eP 1) (eC (.int 1))) (aC (eC (.int 0)) (aC (e2 gGt (eP 1) (eC (.int 0))) aN))))) (eP 4))) sNil) (sRet (eCall f__law_odd (aC (eV 0) aN))))))))))
def f__law_bent : Nat → FN
  | 0 => runDef 7 gNone
  | k + 1 => runDef 7 (g__law_bent (f__law_bent k))
theorem ok__law_bent {P : Program} {w : World} {K : PySem.W.Frag} {mg : Str → Option Value} {base : Heap} (h : Here K mg "_law_bent" "_law_bent" s__law_bent ["_law_feed_here", "_law_thing"]) (T : Txt K mg) (d__law_draw : Does P w K mg base 1 "_law_draw" ["_law_feed_here", "_law_many"] f__law_draw) (d__law_pick : Does P w K mg base 2 "_law_pick" ["_law_feed_here", "_law_things"] f__law_pick) (d__law_odd : Does P w K mg base 3 "_law_odd" ["_law_feed_here"] f__law_odd) : ∀ n, Does P w K mg base (4 + n) "_law_bent" ["_law_feed_here", "_law_thing"] (f__law_bent n)
  | 0 => does_zero h sc__law_bent
  | n + 1 => have d__law_bent := ok__law_bent h T d__law_draw d__law_pick d__law_odd n
    does_of (k := 4 + n) h sc__law_bent fun fa cdv A outer s H E F0 α0 hr => ((j_seq (j_asg (sg_name (i := 2) (vs := [2]) (by decide)) (ps_set (i := 2) sc__law_bent.nd rfl (Or.inl rfl) (j_if (j_tru (vw (j_isi2 (T := .tuple) (U := .str) (pe_callB call_isiT (by rfl) T.b_isinstance (by decide +kernel) (pa_cons (j_peek 1 (pv 1)) (pa_cons (pe_tup (pa_cons (pe_bltn (by rfl) T.b_tuple (by decide +kernel) rfl) (pa_cons (pe_bltn (by rfl) T.b_str (by decide +kernel) rfl) pa_nil))) pa_nil)))))) (j_cb sp_len (pe_callB call_lenJ (by rfl) T.b_len PySem.boot_len (j_acW (j_peek 1 (pv 1)) j_anW))) (j_c pe_int (.int 0))))) (j_seq (j_ifS (PW.pt (j_and (j_tru (vw (j_isi (T := .tuple) (pe_callB call_isi (by rfl) T.b_isinstance (by decide +kernel) (pa_cons (j_peek 1 (pv 1)) (pa_cons (pe_bltn (by rfl) T.b_tuple (by decide +kernel) rfl) pa_nil)))))) (j_and (j_cmpT sp_gt (pt_cmpR op_gtJ (j_peek 2 (pv 2)) (vw (j_c pe_int (.int 0))) (nomark _))) (j_and1 (j_cmpT sp_gt (pt_cmpR op_gtJ (vw (j_callD d__law_draw hr (by omega) (by rfl) (j_ac (j_var 0 (pv 0)) (j_ac (j_c pe_int (.int 4)) j_an)) (fun ρ S ds S' z => len_2 z) rfl)) (vw (j_c pe_int (.int 0))) (nomark _))))))) (j_seq (j_asg (sg_name (i := 3) (vs := [3]) (by decide)) (ps_set (i := 3) sc__law_bent.nd rfl (Or.inl rfl) (j_callD d__law_draw hr (by omega) (by rfl) (j_ac (j_var 0 (pv 0)) (j_ac (j_var 2 (pv 2)) j_an)) (fun ρ S ds S' z => len_2 z) rfl))) (j_last (j_ret (j_op sp_add (pe_op op_addJ (vw (j_op sp_add (pe_op op_addJ (vw (j_sl (j_peek 1 (pv 1)) j_oN (j_oS (j_var 3 (pv 3))))) (vw (j_tup (j_ac (j_callD d__law_bent hr (by omega) (by rfl) (j_ac (j_var 0 (pv 0)) (j_ac (j_op sp_ix (pe_ix ix_seq (j_peek 1 (pv 1)) (j_peek 3 (pv 3)) (fun _ _ => rfl))) j_an)) (fun ρ S ds S' z => len_2 z) rfl) j_an)))))) (vw (j_sl (j_peek 1 (pv 1)) (j_oS (j_op sp_add (pe_op op_addJ (j_peek 3 (pv 3)) (vw (j_c pe_int (.int 1)))))) j_oN))))))) j_nil) (j_seq (j_par2 (ps_par (i := 4) (j := 3) (by rfl) sc__law_bent.nd rfl rfl (by decide) rfl rfl (j_md (j_callD d__law_draw hr (by omega) (by rfl) (j_ac (j_var 0 (pv 0)) (j_ac (j_c pe_int (.int 7)) j_an)) (fun ρ S ds S' z => len_2 z) rfl) (j_md (j_callD d__law_draw hr (by omega) (by rfl) (j_ac (j_var 0 (pv 0)) (j_ac (j_op sp_add (pe_op op_addJ (j_peek 2 (pv 2)) (vw (j_c pe_int (.int 1))))) j_an)) (fun ρ S ds S' z => len_2 z) rfl) j_mn)) (by rfl))) (j_seq (j_ifS (PW.pt (j_and (j_tru (vw (j_isi (T := .tuple) (pe_callB call_isi (by rfl) T.b_isinstance (by decide +kernel) (pa_cons (j_peek 1 (pv 1)) (pa_cons (pe_bltn (by rfl) T.b_tuple (by decide +kernel) rfl) pa_nil)))))) (j_and1 (j_cmpT sp_eq (pt_cmpR (op_eqD hr.units) (j_peek 4 (pv 4)) (vw (j_c pe_int (.int 3))) (nomark _)))))) (j_last (j_ret (lv (j_cbL sp_listL (pe_callTy call_list_of (by rfl) T.b_list (by decide +kernel) (j_acW (j_peek 1 (pv 1)) j_anW)))))) j_nil) (j_seq (j_ifS (PW.pt (j_and (j_tru (vw (j_isi (T := .tuple) (pe_callB call_isi (by rfl) T.b_isinstance (by decide +kernel) (pa_cons (j_peek 1 (pv 1)) (pa_cons (pe_bltn (by rfl) T.b_tuple (by decide +kernel) rfl) pa_nil)))))) (j_and1 (j_cmpT sp_lt (pt_cmpR (op_ltJ hr.units0) (j_peek 4 (pv 4)) (vw (j_c pe_int (.int 3))) (nomark _)))))) (j_seq (j_asg (sg_name (i := 5) (vs := [5]) (by decide)) (j_setV (i := 0) (ps_set (i := 5) sc__law_bent.nd rfl (Or.inl rfl) (j_disp (j_ac (j_tup j_an) (j_ac (j_op sp_add (pe_op op_addJ (vw (j_sl (j_peek 1 (pv 1)) (j_oS (j_var 3 (pv 3))) (j_oS (j_op sp_add (pe_op op_addJ (j_peek 3 (pv 3)) (vw (j_c pe_int (.int 1)))))))) (vw (j_sl (j_peek 1 (pv 1)) (j_oS (j_var 3 (pv 3))) (j_oS (j_op sp_add (pe_op op_addJ (j_peek 3 (pv 3)) (vw (j_c pe_int (.int 1)))))))))) (j_ac (j_op sp_add (pe_op op_addJ (vw (j_sl (j_peek 1 (pv 1)) (j_oS (j_op sp_add (pe_op op_addJ (j_peek 3 (pv 3)) (vw (j_c pe_int (.int 1)))))) (j_oS (j_op sp_add (pe_op op_addJ (j_peek 3 (pv 3)) (vw (j_c pe_int (.int 2)))))))) (vw (j_sl (j_peek 1 (pv 1)) (j_oS (j_var 3 (pv 3))) (j_oS (j_op sp_add (pe_op op_addJ (j_peek 3 (pv 3)) (vw (j_c pe_int (.int 1)))))))))) j_an))))))) (j_last (j_ret (j_op sp_add (pe_op op_addJ (vw (j_op sp_add (pe_op op_addJ (vw (j_sl (j_peek 1 (pv 1)) j_oN (j_oS (j_var 3 (pv 3))))) (vw (j_op sp_ix (pe_ix ix_seq (j_peek 5 (pv 5)) (j_peek 4 (pv 4)) (fun _ _ => rfl))))))) (vw (j_sl (j_peek 1 (pv 1)) (j_oS (j_op sp_add (pe_op op_addJ (j_peek 3 (pv 3)) (vw (j_op sp_ix (pe_ix ix_seq (lw (j_disp (j_ac (j_c pe_int (.int 1)) (j_ac (j_c pe_int (.int 1)) (j_ac (j_c pe_int (.int 2)) j_an))))) (j_peek 4 (pv 4)) (fun _ _ => rfl))))))) j_oN))))))) j_nil) (j_seq (j_ifS (PW.pt (j_and (j_tru (vw (j_isi (T := .str) (pe_callB call_isi (by rfl) T.b_isinstance (by decide +kernel) (pa_cons (j_peek 1 (pv 1)) (pa_cons (pe_bltn (by rfl) T.b_str (by decide +kernel) rfl) pa_nil)))))) (j_and1 (j_cmpT sp_lt (pt_cmpR (op_ltJ hr.units0) (j_peek 4 (pv 4)) (vw (j_c pe_int (.int 4))) (nomark _)))))) (j_seq (j_asg (sg_name (i := 6) (vs := [6]) (by decide)) (ps_set (i := 6) sc__law_bent.nd rfl (Or.inl rfl) (j_callD d__law_pick hr (by omega) (by rfl) (j_ac (j_var 0 (pv 0)) (j_ac (lv (j_disp (j_ac (j_c pe_str (.str ("a" : Str))) (j_ac (j_c pe_str (.str ("z" : Str))) (j_ac (j_c pe_str (.str ("0" : Str))) (j_ac (j_c pe_str (.str ("9" : Str))) (j_ac (j_c pe_str (.str ("A" : Str))) (j_ac (j_c pe_str (.str ("_" : Str))) (j_ac (j_c pe_str (.str (" " : Str))) (j_ac (j_c pe_str (.str ("-" : Str))) (j_ac (j_c pe_str (.str ("" : Str))) j_an))))))))))) j_an)) (fun ρ S ds S' z => len_2 z) rfl))) (j_last (j_ret (j_op sp_add (pe_op op_addJ (vw (j_op sp_add (pe_op op_addJ (vw (j_sl (j_peek 1 (pv 1)) j_oN (j_oS (j_var 3 (pv 3))))) (j_peek 6 (pv 6))))) (vw (j_sl (j_peek 1 (pv 1)) (j_oS (j_op sp_add (pe_op op_addJ (j_peek 3 (pv 3)) (vw (j_op (sp_I (C := CPos)) (pe_op op_mod (vw (j_cb sp_int (pe_callTy call_int1 (by rfl) T.b_int (by decide +kernel) (j_acW (j_peek 4 (pv 4)) j_anW)))) (vw (j_c pe_int (.int 2))))))))) j_oN))))))) j_nil) (j_seq (j_ifS (PW.pt (j_and (j_tru (vw (j_isi (T := .int) (pe_callB call_isi (by rfl) T.b_isinstance (by decide +kernel) (pa_cons (j_peek 1 (pv 1)) (pa_cons (pe_bltn (by rfl) T.b_int (by decide +kernel) rfl) pa_nil)))))) (j_and1 (j_cmpT sp_lt (pt_cmpR (op_ltJ hr.units0) (j_peek 4 (pv 4)) (vw (j_c pe_int (.int 3))) (nomark _)))))) (j_last (j_ret (j_op sp_ix (pe_ix ix_seq (lw (j_disp (j_ac (j_op sp_add (pe_op op_addJ (j_peek 1 (pv 1)) (vw (j_c pe_int (.int 1))))) (j_ac (j_c pe_int (.int 0)) (j_ac (j_op sp_gt (pe_cmpR op_gtJ (j_peek 1 (pv 1)) (vw (j_c pe_int (.int 0))) (nomark _))) j_an))))) (j_peek 4 (pv 4)) (fun _ _ => rfl))))) j_nil) (j_last (j_ret (j_callD d__law_odd hr (by omega) (by rfl) (j_ac (j_var 0 (pv 0)) j_an) (fun ρ S ds S' z => len_1 z) rfl)))))))))) : PSs _ _ (tS _ F0 α0 H (g__law_bent (f__law_bent n))))
abbrev s__law_fixed : Stmt := top 37
abbrev N__law_fixed : List Str := ["_law_deep", "_law_wide", "_law_lap", "_law_things", "_law_k"]
theorem sc__law_fixed : FnScope N__law_fixed [] (defScope s__law_fixed) := ⟨rfl, rfl, rfl, by decide +kernel, rfl, by decide +kernel, by decide +kernel⟩
def g__law_fixed : GS := (sSeq (sPar [0, 1] (mD (eTup (aC (eC (.str ("a" : Str))) aN)) (mD (aG gTuple (aC (eL (lComp [4] (iRg2 (aC (eC (.int 100)) (aC (eC (.int 700)) aN))) (bName 4) cYes (e2 gAdd (eC (.str ("a" : Str))) (aG gStr (aC (eP 4) aN))))) aN)) mN))) (sSeq (sFor (iRg1 (aC (eC (.int 27)) aN)) (bName 2) (sSet (eTup (aC (eV 0) aN)) (bName 0))) (sSeq (sSetL 3 (lDisp (aC (eC .non) (aC (eC (.bl true)) (aC (eC (.bl false)) (aC (eC (.int 0)) (aC (eC (.int 1)) (aC (e1 gNeg (eC (.int 1))) (aC (e2 (gI CPow fun i j => i ^ j.toNat) (eC (.int 10)) (eC (.int 59))) (aC (e1 gNeg (e2 (gI CPow fun i j => i ^ j.toNat) (eC (.int 10)) (eC (.int 59)))) (aC (eC (.str ("" : Str))) (aC (eC (.str ("a" : Str))) (aC (eC (.str ("z" : Str))) (aC (eC (.str ("0" : Str))) (aC (eC (.str ("a0" : Str))) (aC (eC (.str ("0a" : Str))) (aC (eC (.str ("abcdefgh" : Str))) aN))))))))))))))))) (sSeq (sExt 3 (eL (lDisp (aC (eC (.str ("abcdefghi" : Str))) (aC (eC (.str ("A" : Str))) (aC (eC (.str ("a b" : Str))) (aC (eC (.str (" a" : Str))) (aC (eC (.str ("a\n" : Str))) (aC (eC (.str ("a-b" : Str))) (aC (eC (.str ("a_b" : Str))) (aC (eC (.str ("~" : Str))) (aC (eC (.str ("{" : Str))) (aC (eC (.str ("@" : Str))) (aC (eC (.str ("[" : Str))) (aC (eC (.str ("/" : Str))) (aC (eC (.str (":" : Str))) (aC (eC (.str ("a/" : Str))) (aC (eC (.str ("a:" : Str))) (aC (eC (.str ("a{" : Str))) aN))))))))))))))))))) (sSeq (sExt 3 (eL (lDisp (aC (eTup aN) (aC (eL (lDisp aN)) (aC (eTup (aC (eC (.str ("a" : Str))) aN)) (aC (eL (lDisp (aC (eC (.str ("a" : Str))) aN))) (aC (eTup (aC (eC (.str ("a" : Str))) (aC (eC (.str ("b" : Str))) aN))) (aC (eTup (aC (eC (.str ("b" : Str))) (aC (eC (.str ("a" : Str))) aN))) (aC (eTup (aC (eC (.str ("a" : Str))) (aC (eC (.str ("a" : Str))) aN))) (aC (eTup (aC (eC (.str ("a9" : Str))) (aC (eC (.str ("aa" : Str))) aN))) (aC (eTup (aC (eC (.str ("aa" : Str))) (aC (eC (.str ("a9" : Str))) aN))) (aC (eTup (aC (eC (.str ("ab" : Str))) (aC (eC (.str ("a" : Str))) aN))) aN))))))))))))) (sSeq (sExt 3 (eL (lDisp (aC (eV 0) (aC (eV 1) (aC (eRev (eP 1)) (aC (eL (aGL gListL (aC (eP 1) aN))) (aC (eTup (aC (eC (.str ("a" : Str))) (aC (eC (.str ("b" : Str))) (aC (eC (.str ("c" : Str))) aN)))) (aC (eTup (aC (eC (.str ("a" : Str))) (aC (eC .non) aN))) (aC (eTup (aC (eC (.str ("" : Str))) (aC (eC (.str ("b" : Str))) aN))) (aC (eTup (aC (eC (.str ("a" : Str))) (aC (eC (.int 1)) aN))) (aC (eTup (aC (eC (.str ("a" : Str))) (aC (eC (.int 0)) aN))) aN)))))))))))) (sSeq (sExt 3 (eL (lDisp (aC (eTup (aC (eC (.str ("a" : Str))) (aC (eC (.bl true)) aN))) (aC (eTup (aC (eC (.str ("a" : Str))) (aC (e1 gNeg (eC (.int 1))) aN))) (aC (eTup (aC (eC (.str ("A" : Str))) (aC (eC (.int 1)) aN))) (aC (eTup (aC (eC (.str ("a" : Str))) (aC (eC (.str ("1" : Str))) aN))) (aC (eL (lDisp (aC (eC (.str ("a" : Str))) (aC (eC (.int 1)) aN)))) (aC (eTup (aC (eC (.str ("a" : Str))) (aC (eC (.int 1)) (aC (eC (.int 1)) aN)))) (aC (eTup (aC (eC (.str ("a" : Str))) (aC (e2 (gI CPow fun i j => i ^ j.toNat) (eC (.int 10)) (eC (.int 59))) aN))) (aC (eTup (aC (eC (.int 1)) (aC (eC (.str ("a" : Str))) aN))) aN))))))))))) (sSeq (sExt 3 (eL (lDisp (aC (eTup (aC (eC (.str ("a" : Str))) (aC (eC (.str ("c" : Str))) (aC (eTup aN) (aC (eC (.bl true)) (aC (eTup aN) aN)))))) (aC (eTup (aC (eC (.str ("a" : Str))) (aC (eC (.str ("c" : Str))) (aC (eTup aN) (aC (eC (.int 1)) (aC (eTup aN) aN)))))) (aC (eTup (aC (eC (.str ("a" : Str))) (aC (eC (.str ("c" : Str))) (aC (eTup (aC (eC (.str ("c" : Str))) aN)) (aC (eC (.bl false)) (aC (eTup (aC (eC (.str ("a" : Str))) aN)) aN)))))) aN)))))) (sSeq (sExt 3 (eL (lDisp (aC (eTup (aC (eC (.str ("a" : Str))) (aC (eC (.str ("c" : Str))) (aC (eL (lDisp aN)) (aC (eC (.bl true)) (aC (eTup aN) aN)))))) (aC (eTup (aC (eC (.str ("a" : Str))) (aC (eC (.str ("c" : Str))) (aC (eTup (aC (eC (.str ("d" : Str))) (aC (eC (.str ("c" : Str))) aN))) (aC (eC (.bl true)) (aC (eTup aN) aN)))))) (aC (eTup (aC (eC (.str ("a" : Str))) (aC (eC (.str ("c" : Str))) (aC (eTup aN) (aC (eC (.bl true)) (aC (eTup (aC (eC (.str ("b" : Str))) (aC (eC (.str ("b" : Str))) aN))) aN)))))) aN)))))) (sSeq (sExt 3 (eL (lDisp (aC (eTup (aC (eC (.str ("a" : Str))) (aC (eC (.str ("" : Str))) (aC (eTup aN) (aC (eC (.bl true)) (aC (eTup aN) aN)))))) (aC (eTup (aC (eC (.str ("" : Str))) (aC (eC (.str ("c" : Str))) (aC (eTup aN) (aC (eC (.bl true)) (aC (eTup aN) aN)))))) (aC (eTup (aC (eC (.str ("a" : Str))) (aC (eC (.str ("c" : Str))) (aC (eTup aN) (aC (eC .non) (aC (eTup aN) aN)))))) (aC (eTup (aC (eC (.str ("a" : Str))) (aC (eC (.str ("c" : Str))) (aC (eTup aN) (aC (eC (.bl true)) aN))))) aN))))))) (sSeq (sExt 3 (eL (lDisp (aC (eL (lDisp (aC (eC (.str ("a" : Str))) (aC (eC (.str ("c" : Str))) (aC (eTup aN) (aC (eC (.bl true)) (aC (eTup aN) aN))))))) (aC (eTup (aC (eC (.str ("a" : Str))) (aC (eC (.str ("c" : Str))) (aC (eC (.str ("c" : Str))) (aC (eC (.bl true)) (aC (eTup aN) aN)))))) (aC (eTup (aC (eC (.str ("a" : Str))) (aC (eC (.str ("c" : Str))) (aC (eTup aN) (aC (eC (.bl true)) (aC (eL (lDisp (aC (eC (.str ("b" : Str))) aN))) aN)))))) aN)))))) (sSeq (sExt 3 (eL (lDisp (aC (eTup (aC (eC (.str ("a" : Str))) (aC (eC .non) (aC (eC (.str ("s" : Str))) (aC (eTup aN) (aC (eC (.str ("f" : Str))) aN)))))) (aC (eTup (aC (eC (.str ("a" : Str))) (aC (eC .non) (aC (eC (.str ("s" : Str))) (aC (eTup (aC (eC (.str ("g" : Str))) aN)) (aC (eC (.str ("f" : Str))) aN)))))) (aC (eTup (aC (eC (.str ("a" : Str))) (aC (eC (.str ("k" : Str))) (aC (eC (.str ("s" : Str))) (aC (eTup aN) (aC (eC (.str ("f" : Str))) aN)))))) aN)))))) (sSeq (sExt 3 (eL (lDisp (aC (eTup (aC (eC (.str ("a" : Str))) (aC (eC (.str ("k" : Str))) (aC (eC (.str ("s" : Str))) (aC (eL (lDisp aN)) (aC (eC (.str ("f" : Str))) aN)))))) (aC (eTup (aC (eC (.str ("a" : Str))) (aC (eC (.str ("k" : Str))) (aC (eC (.str ("s" : Str))) (aC (eTup (aC (eC (.str ("g" : Str))) (aC (eC (.str ("g" : Str))) aN))) (aC (eC (.str ("f" : Str))) aN)))))) (aC (eTup (aC (eC (.str ("a" : Str))) (aC (eC (.str ("k" : Str))) (aC (eC (.str ("s" : Str))) (aC (eTup (aC (eC (.str ("z" : Str))) (aC (eC (.str ("b" : Str))) (aC (eC (.str ("" : Str))) aN)))) (aC (eC (.str ("f" : Str))) aN)))))) aN)))))) (sSeq (sExt 3 (eL (lDisp (aC (eTup (aC (eC (.str ("a" : Str))) (aC (eC (.bl false)) (aC (eC (.str ("s" : Str))) (aC (eTup aN) (aC (eC (.str ("f" : Str))) aN)))))) (aC (eTup (aC (eC (.str ("a" : Str))) (aC (eC (.str ("" : Str))) (aC (eC (.str ("s" : Str))) (aC (eTup aN) (aC (eC (.str ("f" : Str))) aN)))))) (aC (eTup (aC (eC (.str ("a" : Str))) (aC (eC .non) (aC (eC (.str ("s" : Str))) (aC (eTup aN) (aC (eC .non) aN)))))) aN)))))) (sSeq (sExt 3 (eL (lDisp (aC (eTup (aC (eC .non) (aC (eC .non) (aC (eC (.str ("s" : Str))) (aC (eTup aN) (aC (eC (.str ("f" : Str))) aN)))))) (aC (eTup (aC (eC (.str ("a" : Str))) (aC (eC .non) (aC (eC (.int 1)) (aC (eTup aN) (aC (eC (.str ("f" : Str))) aN)))))) (aC (eTup (aC (eC (.str ("a" : Str))) (aC (eC (.str ("k" : Str))) (aC (eC (.str ("s" : Str))) (aC (eTup (aC (eC (.str ("z" : Str))) (aC (eC (.str ("b" : Str))) aN))) (aC (eC (.str ("f" : Str))) (aC (eC (.str ("f" : Str))) aN))))))) aN)))))) (sFreeze 3 (sRet (eV 3))))))))))))))))))
def f__law_fixed : FN := runDef 5 g__law_fixed
theorem ok__law_fixed {P : Program} {w : World} {K : PySem.W.Frag} {mg : Str → Option Value} {base : Heap} (h : Here K mg "_law_fixed" "_law_fixed" s__law_fixed []) (T : Txt K mg) : Does P w K mg base 1 "_law_fixed" [] f__law_fixed :=
  does_of h sc__law_fixed fun fa cdv A outer s H E F0 α0 hr => ((j_seq (j_par2 (ps_par (i := 0) (j := 1) (by rfl) sc__law_fixed.nd rfl rfl (by decide) rfl rfl (j_md (j_tup (j_ac (j_c pe_str (.str ("a" : Str))) j_an)) (j_md (j_cb sp_tuple (pe_callTy call_tuple_of (by rfl) T.b_tuple (by decide +kernel) (j_acW (lw (j_comp (sg_name (i := 4) (vs := [4]) (by decide)) (pe_lc (own := [("_law_k", 4)]) (g := (gName 4)) (tt := tT _ cYes) (te := tV _ (e2 gAdd (eC (.str ("a" : Str))) (aG gStr (aC (eP 4) aN)))) (by rfl) sc__law_fixed.nd (j_iw (j_rg2 (pi_range2 (by rfl) T.b_range (j_acW (vw (j_c pe_int (.int 100))) (j_acW (vw (j_c pe_int (.int 700))) j_anW))))) (blkOk_by (own := [("_law_k", 4)]) (N := N__law_fixed) (sc := (defScope s__law_fixed)) (by decide +kernel)) (fun _ _ _ _ _ => (pg_name (i := 4) sc__law_fixed.nd rfl (Or.inl rfl))) (fun _ _ _ _ _ => j_yes) (fun _ _ _ _ _ => (j_op sp_add (pe_op op_addJ (vw (j_c pe_str (.str ("a" : Str)))) (vw (j_cb sp_str (pe_callTy call_str_int (by rfl) T.b_str (by decide +kernel) (j_acW (j_peek 4 (pv 4)) j_anW)))))))))) j_anW))) j_mn)) (by rfl))) (j_seq (j_for (sg_name (i := 2) (vs := [2]) (by decide)) (ps_for PassesOwn.never rfl (j_rg1 (pi_range1 (by rfl) T.b_range (j_acW (vw (j_c pe_int (.int 27))) j_anW))) (pg_name (i := 2) sc__law_fixed.nd rfl (Or.inl rfl)) (j_last (j_asg (sg_name (i := 0) (vs := [0]) (by decide)) (ps_set (i := 0) sc__law_fixed.nd rfl (Or.inl rfl) (j_tup (j_ac (j_var 0 (pv 0)) j_an))))))) (j_seq (j_setL (ps_set (i := 3) sc__law_fixed.nd rfl (Or.inl rfl) (j_disp (j_ac (j_c pe_non .non) (j_ac (j_c pe_bl (.bl true)) (j_ac (j_c pe_bl (.bl false)) (j_ac (j_c pe_int (.int 0)) (j_ac (j_c pe_int (.int 1)) (j_ac (j_un sp_neg (pe_un un_neg (vw (j_c pe_int (.int 1))))) (j_ac (j_op sp_I (pe_op op_pow (vw (j_c pe_int (.int 10))) (vw (j_c pe_int (.int 59))))) (j_ac (j_un sp_neg (pe_un un_neg (vw (j_op sp_I (pe_op op_pow (vw (j_c pe_int (.int 10))) (vw (j_c pe_int (.int 59)))))))) (j_ac (j_c pe_str (.str ("" : Str))) (j_ac (j_c pe_str (.str ("a" : Str))) (j_ac (j_c pe_str (.str ("z" : Str))) (j_ac (j_c pe_str (.str ("0" : Str))) (j_ac (j_c pe_str (.str ("a0" : Str))) (j_ac (j_c pe_str (.str ("0a" : Str))) (j_ac (j_c pe_str (.str ("abcdefgh" : Str))) j_an)))))))))))))))))) (j_seq (j_ext (ps_expr (pe_bm PySem.F.plainAttrs_list PySem.F.slot_list_extend PySem.F.type_list_extend mt_extend (pv 3) (pa_cons (lw (j_disp (j_ac (j_c pe_str (.str ("abcdefghi" : Str))) (j_ac (j_c pe_str (.str ("A" : Str))) (j_ac (j_c pe_str (.str ("a b" : Str))) (j_ac (j_c pe_str (.str (" a" : Str))) (j_ac (j_c pe_str (.str ("a\n" : Str))) (j_ac (j_c pe_str (.str ("a-b" : Str))) (j_ac (j_c pe_str (.str ("a_b" : Str))) (j_ac (j_c pe_str (.str ("~" : Str))) (j_ac (j_c pe_str (.str ("{" : Str))) (j_ac (j_c pe_str (.str ("@" : Str))) (j_ac (j_c pe_str (.str ("[" : Str))) (j_ac (j_c pe_str (.str ("/" : Str))) (j_ac (j_c pe_str (.str (":" : Str))) (j_ac (j_c pe_str (.str ("a/" : Str))) (j_ac (j_c pe_str (.str ("a:" : Str))) (j_ac (j_c pe_str (.str ("a{" : Str))) j_an)))))))))))))))))) pa_nil)))) (j_seq (j_ext (ps_expr (pe_bm PySem.F.plainAttrs_list PySem.F.slot_list_extend PySem.F.type_list_extend mt_extend (pv 3) (pa_cons (lw (j_disp (j_ac (j_tup j_an) (j_ac (lv (j_disp j_an)) (j_ac (j_tup (j_ac (j_c pe_str (.str ("a" : Str))) j_an)) (j_ac (lv (j_disp (j_ac (j_c pe_str (.str ("a" : Str))) j_an))) (j_ac (j_tup (j_ac (j_c pe_str (.str ("a" : Str))) (j_ac (j_c pe_str (.str ("b" : Str))) j_an))) (j_ac (j_tup (j_ac (j_c pe_str (.str ("b" : Str))) (j_ac (j_c pe_str (.str ("a" : Str))) j_an))) (j_ac (j_tup (j_ac (j_c pe_str (.str ("a" : Str))) (j_ac (j_c pe_str (.str ("a" : Str))) j_an))) (j_ac (j_tup (j_ac (j_c pe_str (.str ("a9" : Str))) (j_ac (j_c pe_str (.str ("aa" : Str))) j_an))) (j_ac (j_tup (j_ac (j_c pe_str (.str ("aa" : Str))) (j_ac (j_c pe_str (.str ("a9" : Str))) j_an))) (j_ac (j_tup (j_ac (j_c pe_str (.str ("ab" : Str))) (j_ac (j_c pe_str (.str ("a" : Str))) j_an))) j_an)))))))))))) pa_nil)))) (j_seq (j_ext (ps_expr (pe_bm PySem.F.plainAttrs_list PySem.F.slot_list_extend PySem.F.type_list_extend mt_extend (pv 3) (pa_cons (lw (j_disp (j_ac (j_var 0 (pv 0)) (j_ac (j_var 1 (pv 1)) (j_ac (j_revT (j_peek 1 (pv 1))) (j_ac (lv (j_cbL sp_listL (pe_callTy call_list_of (by rfl) T.b_list (by decide +kernel) (j_acW (j_peek 1 (pv 1)) j_anW)))) (j_ac (j_tup (j_ac (j_c pe_str (.str ("a" : Str))) (j_ac (j_c pe_str (.str ("b" : Str))) (j_ac (j_c pe_str (.str ("c" : Str))) j_an)))) (j_ac (j_tup (j_ac (j_c pe_str (.str ("a" : Str))) (j_ac (j_c pe_non .non) j_an))) (j_ac (j_tup (j_ac (j_c pe_str (.str ("" : Str))) (j_ac (j_c pe_str (.str ("b" : Str))) j_an))) (j_ac (j_tup (j_ac (j_c pe_str (.str ("a" : Str))) (j_ac (j_c pe_int (.int 1)) j_an))) (j_ac (j_tup (j_ac (j_c pe_str (.str ("a" : Str))) (j_ac (j_c pe_int (.int 0)) j_an))) j_an))))))))))) pa_nil)))) (j_seq (j_ext (ps_expr (pe_bm PySem.F.plainAttrs_list PySem.F.slot_list_extend PySem.F.type_list_extend mt_extend (pv 3) (pa_cons (lw (j_disp (j_ac (j_tup (j_ac (j_c pe_str (.str ("a" : Str))) (j_ac (j_c pe_bl (.bl true)) j_an))) (j_ac (j_tup (j_ac (j_c pe_str (.str ("a" : Str))) (j_ac (j_un sp_neg (pe_un un_neg (vw (j_c pe_int (.int 1))))) j_an))) (j_ac (j_tup (j_ac (j_c pe_str (.str ("A" : Str))) (j_ac (j_c pe_int (.int 1)) j_an))) (j_ac (j_tup (j_ac (j_c pe_str (.str ("a" : Str))) (j_ac (j_c pe_str (.str ("1" : Str))) j_an))) (j_ac (lv (j_disp (j_ac (j_c pe_str (.str ("a" : Str))) (j_ac (j_c pe_int (.int 1)) j_an)))) (j_ac (j_tup (j_ac (j_c pe_str (.str ("a" : Str))) (j_ac (j_c pe_int (.int 1)) (j_ac (j_c pe_int (.int 1)) j_an)))) (j_ac (j_tup (j_ac (j_c pe_str (.str ("a" : Str))) (j_ac (j_op sp_I (pe_op op_pow (vw (j_c pe_int (.int 10))) (vw (j_c pe_int (.int 59))))) j_an))) (j_ac (j_tup (j_ac (j_c pe_int (.int 1)) (j_ac (j_c pe_str (.str ("a" : Str))) j_an))) j_an)))))))))) pa_nil)))) (j_seq (j_ext (ps_expr (pe_bm PySem.F.plainAttrs_list PySem.F.slot_list_extend PySem.F.type_list_extend mt_extend (pv 3) (pa_cons (lw (j_disp (j_ac (j_tup (j_ac (j_c pe_str (.str ("a" : Str))) (j_ac (j_c pe_str (.str ("c" : Str))) (j_ac (j_tup j_an) (j_ac (j_c pe_bl (.bl true)) (j_ac (j_tup j_an) j_an)))))) (j_ac (j_tup (j_ac (j_c pe_str (.str ("a" : Str))) (j_ac (j_c pe_str (.str ("c" : Str))) (j_ac (j_tup j_an) (j_ac (j_c pe_int (.int 1)) (j_ac (j_tup j_an) j_an)))))) (j_ac (j_tup (j_ac (j_c pe_str (.str ("a" : Str))) (j_ac (j_c pe_str (.str ("c" : Str))) (j_ac (j_tup (j_ac (j_c pe_str (.str ("c" : Str))) j_an)) (j_ac (j_c pe_bl (.bl false)) (j_ac (j_tup (j_ac (j_c pe_str (.str ("a" : Str))) j_an)) j_an)))))) j_an))))) pa_nil)))) (j_seq (j_ext (ps_expr (pe_bm PySem.F.plainAttrs_list PySem.F.slot_list_extend PySem.F.type_list_extend mt_extend (pv 3) (pa_cons (lw (j_disp (j_ac (j_tup (j_ac (j_c pe_str (.str ("a" : Str))) (j_ac (j_c pe_str (.str ("c" : Str))) (j_ac (lv (j_disp j_an)) (j_ac (j_c pe_bl (.bl true)) (j_ac (j_tup j_an) j_an)))))) (j_ac (j_tup (j_ac (j_c pe_str (.str ("a" : Str))) (j_ac (j_c pe_str (.str ("c" : Str))) (j_ac (j_tup (j_ac (j_c pe_str (.str ("d" : Str))) (j_ac (j_c pe_str (.str ("c" : Str))) j_an))) (j_ac (j_c pe_bl (.bl true)) (j_ac (j_tup j_an) j_an)))))) (j_ac (j_tup (j_ac (j_c pe_str (.str ("a" : Str))) (j_ac (j_c pe_str (.str ("c" : Str))) (j_ac (j_tup j_an) (j_ac (j_c pe_bl (.bl true)) (j_ac (j_tup (j_ac (j_c pe_str (.str ("b" : Str))) (j_ac (j_c pe_str (.str ("b" : Str))) j_an))) j_an)))))) j_an))))) pa_nil)))) (j_seq (j_ext (ps_expr (pe_bm PySem.F.plainAttrs_list PySem.F.slot_list_extend PySem.F.type_list_extend mt_extend (pv 3) (pa_cons (lw (j_disp (j_ac (j_tup (j_ac (j_c pe_str (.str ("a" : Str))) (j_ac (j_c pe_str (.str ("" : Str))) (j_ac (j_tup j_an) (j_ac (j_c pe_bl (.bl true)) (j_ac (j_tup j_an) j_an)))))) (j_ac (j_tup (j_ac (j_c pe_str (.str ("" : Str))) (j_ac (j_c pe_str (.str ("c" : Str))) (j_ac (j_tup j_an) (j_ac (j_c pe_bl (.bl true)) (j_ac (j_tup j_an) j_an)))))) (j_ac (j_tup (j_ac (j_c pe_str (.str ("a" : Str))) (j_ac (j_c pe_str (.str ("c" : Str))) (j_ac (j_tup j_an) (j_ac (j_c pe_non .non) (j_ac (j_tup j_an) j_an)))))) (j_ac (j_tup (j_ac (j_c pe_str (.str ("a" : Str))) (j_ac (j_c pe_str (.str ("c" : Str))) (j_ac (j_tup j_an) (j_ac (j_c pe_bl (.bl true)) j_an))))) j_an)))))) pa_nil)))) (j_seq (j_ext (ps_expr (pe_bm PySem.F.plainAttrs_list PySem.F.slot_list_extend PySem.F.type_list_extend mt_extend (pv 3) (pa_cons (lw (j_disp (j_ac (lv (j_disp (j_ac (j_c pe_str (.str ("a" : Str))) (j_ac (j_c pe_str (.str ("c" : Str))) (j_ac (j_tup j_an) (j_ac (j_c pe_bl (.bl true)) (j_ac (j_tup j_an) j_an))))))) (j_ac (j_tup (j_ac (j_c pe_str (.str ("a" : Str))) (j_ac (j_c pe_str (.str ("c" : Str))) (j_ac (j_c pe_str (.str ("c" : Str))) (j_ac (j_c pe_bl (.bl true)) (j_ac (j_tup j_an) j_an)))))) (j_ac (j_tup (j_ac (j_c pe_str (.str ("a" : Str))) (j_ac (j_c pe_str (.str ("c" : Str))) (j_ac (j_tup j_an) (j_ac (j_c pe_bl (.bl true)) (j_ac (lv (j_disp (j_ac (j_c pe_str (.str ("b" : Str))) j_an))) j_an)))))) j_an))))) pa_nil)))) (j_seq (j_ext (ps_expr (pe_bm PySem.F.plainAttrs_list PySem.F.slot_list_extend PySem.F.type_list_extend mt_extend (pv 3) (pa_cons (lw (j_disp (j_ac (j_tup (j_ac (j_c pe_str (.str ("a" : Str))) (j_ac (j_c pe_non .non) (j_ac (j_c pe_str (.str ("s" : Str))) (j_ac (j_tup j_an) (j_ac (j_c pe_str (.str ("f" : Str))) j_an)))))) (j_ac (j_tup (j_ac (j_c pe_str (.str ("a" : Str))) (j_ac (j_c pe_non .non) (j_ac (j_c pe_str (.str ("s" : Str))) (j_ac (j_tup (j_ac (j_c pe_str (.str ("g" : Str))) j_an)) (j_ac (j_c pe_str (.str ("f" : Str))) j_an)))))) (j_ac (j_tup (j_ac (j_c pe_str (.str ("a" : Str))) (j_ac (j_c pe_str (.str ("k" : Str))) (j_ac (j_c pe_str (.str ("s" : Str))) (j_ac (j_tup j_an) (j_ac (j_c pe_str (.str ("f" : Str))) j_an)))))) j_an))))) pa_nil)))) (j_seq (j_ext (ps_expr (pe_bm PySem.F.plainAttrs_list PySem.F.slot_list_extend PySem.F.type_list_extend mt_extend (pv 3) (pa_cons (lw (j_disp (j_ac (j_tup (j_ac (j_c pe_str (.str ("a" : Str))) (j_ac (j_c pe_str (.str ("k" : Str))) (j_ac (j_c pe_str (.str ("s" : Str))) (j_ac (lv (j_disp j_an)) (j_ac (j_c pe_str (.str ("f" : Str))) j_an)))))) (j_ac (j_tup (j_ac (j_c pe_str (.str ("a" : Str))) (j_ac (j_c pe_str (.str ("k" : Str))) (j_ac (j_c pe_str (.str ("s" : Str))) (j_ac (j_tup (j_ac (j_c pe_str (.str ("g" : Str))) (j_ac (j_c pe_str (.str ("g" : Str))) j_an))) (j_ac (j_c pe_str (.str ("f" : Str))) j_an)))))) (j_ac (j_tup (j_ac (j_c pe_str (.str ("a" : Str))) (j_ac (j_c pe_str (.str ("k" : Str))) (j_ac (j_c pe_str (.str ("s" : Str))) (j_ac (j_tup (j_ac (j_c pe_str (.str ("z" : Str))) (j_ac (j_c pe_str (.str ("b" : Str))) (j_ac (j_c pe_str (.str ("" : Str))) j_an)))) (j_ac (j_c pe_str (.str ("f" : Str))) j_an)))))) j_an))))) pa_nil)))) (j_seq (j_ext (ps_expr (pe_bm PySem.F.plainAttrs_list PySem.F.slot_list_extend PySem.F.type_list_extend mt_extend (pv 3) (pa_cons (lw (j_disp (j_ac (j_tup (j_ac (j_c pe_str (.str ("a" : Str))) (j_ac (j_c pe_bl (.bl false)) (j_ac (j_c pe_str (.str ("s" : Str))) (j_ac (j_tup j_an) (j_ac (j_c pe_str (.str ("f" : Str))) j_an)))))) (j_ac (j_tup (j_ac (j_c pe_str (.str ("a" : Str))) (j_ac (j_c pe_str (.str ("" : Str))) (j_ac (j_c pe_str (.str ("s" : Str))) (j_ac (j_tup j_an) (j_ac (j_c pe_str (.str ("f" : Str))) j_an)))))) (j_ac (j_tup (j_ac (j_c pe_str (.str ("a" : Str))) (j_ac (j_c pe_non .non) (j_ac (j_c pe_str (.str ("s" : Str))) (j_ac (j_tup j_an) (j_ac (j_c pe_non .non) j_an)))))) j_an))))) pa_nil)))) (j_seq (j_ext (ps_expr (pe_bm PySem.F.plainAttrs_list PySem.F.slot_list_extend PySem.F.type_list_extend mt_extend (pv 3) (pa_cons (lw (j_disp (j_ac (j_tup (j_ac (j_c pe_non .non) (j_ac (j_c pe_non .non) (j_ac (j_c pe_str (.str ("s" : Str))) (j_ac (j_tup j_an) (j_ac (j_c pe_str (.str ("f" : Str))) j_an)))))) (j_ac (j_tup (j_ac (j_c pe_str (.str ("a" : Str))) (j_ac (j_c pe_non .non) (j_ac (j_c pe_int (.int 1)) (j_ac (j_tup j_an) (j_ac (j_c pe_str (.str ("f" : Str))) j_an)))))) (j_ac (j_tup (j_ac (j_c pe_str (.str ("a" : Str))) (j_ac (j_c pe_str (.str ("k" : Str))) (j_ac (j_c pe_str (.str ("s" : Str))) (j_ac (j_tup (j_ac (j_c pe_str (.str ("z" : Str))) (j_ac (j_c pe_str (.str ("b" : Str))) j_an))) (j_ac (j_c pe_str (.str ("f" : Str))) (j_ac (j_c pe_str (.str ("f" : Str))) j_an))))))) j_an))))) pa_nil)))) (j_freeze 3 (j_last (j_ret (j_var 3 (pv 3)))))))))))))))))))) : PSs _ _ (tS _ F0 α0 H g__law_fixed))
abbrev s__law_fixed_books : Stmt := top 38
abbrev N__law_fixed_books : List Str := ["_law_same", "_law_one", "_law_row", "_law_things"]
theorem sc__law_fixed_books : FnScope N__law_fixed_books [] (defScope s__law_fixed_books) := ⟨rfl, rfl, rfl, by decide +kernel, rfl, by decide +kernel, by decide +kernel⟩
def g__law_fixed_books : GS := (sSeq (sPar [0, 1, 2] (mD (eTup (aC (eC (.str ("b" : Str))) (aC (eC (.str ("c" : Str))) (aC (eTup aN) (aC (eC (.bl true)) (aC (eTup (aC (eC (.str ("b" : Str))) aN)) aN)))))) (mD (eTup (aC (eC (.str ("b" : Str))) (aC (eC (.int 1)) aN))) (mD (eTup (aC (eC (.str ("x" : Str))) (aC (eC .non) (aC (eC (.str ("y" : Str))) (aC (eTup aN) (aC (eC (.str ("z" : Str))) aN)))))) mN)))) (sSeq (sSetL 3 (lDisp (aC (eTup (aC (eTup aN) (aC (eTup aN) (aC (eTup aN) (aC (eTup aN) aN))))) (aC (eL (lDisp (aC (eTup aN) (aC (eTup aN) (aC (eTup aN) (aC (eTup aN) aN)))))) (aC (eTup (aC (eTup aN) (aC (eTup aN) (aC (eTup aN) aN)))) (aC (eTup (aC (eTup aN) (aC (eTup aN) (aC (eTup aN) (aC (eTup aN) (aC (eTup aN) aN)))))) (aC (eTup (aC (eTup aN) (aC (eTup aN) (aC (eTup aN) (aC (eL (lDisp aN)) aN))))) aN))))))) (sSeq (sExt 3 (eL (lDisp (aC (eTup (aC (eTup (aC (eV 0) (aC (eV 0) aN))) (aC (eTup (aC (eV 1) (aC (eV 1) aN))) (aC (eTup (aC (eTup (aC (eC (.str ("b" : Str))) (aC (eC (.str ("a" : Str))) aN))) (aC (eTup (aC (eC (.str ("a" : Str))) (aC (eC (.str ("a" : Str))) aN))) aN))) (aC (eTup aN) aN))))) (aC (eTup (aC (eTup aN) (aC (eTup aN) (aC (eTup aN) (aC (eTup (aC (eV 2) (aC (eV 2) aN))) aN))))) aN))))) (sSeq (sExt 3 (eL (lDisp (aC (eTup (aC (eTup aN) (aC (eTup aN) (aC (eTup (aC (eTup (aC (eC (.str ("a" : Str))) aN)) aN)) (aC (eTup aN) aN))))) (aC (eTup (aC (eTup aN) (aC (eTup aN) (aC (eTup (aC (eL (lDisp (aC (eC (.str ("a" : Str))) (aC (eC (.str ("b" : Str))) aN)))) aN)) (aC (eTup aN) aN))))) (aC (eTup (aC (eTup aN) (aC (eTup aN) (aC (eTup aN) (aC (eTup (aC (eV 2) (aC (eL (aGL gListL (aC (eP 2) aN))) aN))) aN))))) aN)))))) (sRet (eL (l2 gCatL (eP 3) (eL (lDisp (aC (eTup (aC (eTup (aC (eC (.int 1)) aN)) (aC (eTup aN) (aC (eTup aN) (aC (eTup aN) aN))))) (aC (eTup (aC (eTup aN) (aC (eTup (aC (eC (.str ("a" : Str))) aN)) (aC (eTup aN) (aC (eTup aN) aN))))) (aC (eTup (aC (eTup aN) (aC (eTup aN) (aC (eTup aN) (aC (eC .non) aN))))) (aC (eTup (aC (eTup (aC (eV 0) (aC (eV 2) aN))) (aC (eTup aN) (aC (eTup aN) (aC (eTup aN) aN))))) aN)))))))))))))
def f__law_fixed_books : FN := runDef 4 g__law_fixed_books
theorem ok__law_fixed_books {P : Program} {w : World} {K : PySem.W.Frag} {mg : Str → Option Value} {base : Heap} (h : Here K mg "_law_fixed_books" "_law_fixed_books" s__law_fixed_books []) (T : Txt K mg) : Does P w K mg base 1 "_law_fixed_books" [] f__law_fixed_books :=
  does_of h sc__law_fixed_books fun fa cdv A outer s H E F0 α0 hr => ((j_seq (j_parC (is := [0, 1, 2]) (ps_asg (pe_tup (j_md (j_tup (j_ac (j_c pe_str (.str ("b" : Str))) (j_ac (j_c pe_str (.str ("c" : Str))) (j_ac (j_tup j_an) (j_ac (j_c pe_bl (.bl true)) (j_ac (j_tup (j_ac (j_c pe_str (.str ("b" : Str))) j_an)) j_an)))))) (j_md (j_tup (j_ac (j_c pe_str (.str ("b" : Str))) (j_ac (j_c pe_int (.int 1)) j_an))) (j_md (j_tup (j_ac (j_c pe_str (.str ("x" : Str))) (j_ac (j_c pe_non .non) (j_ac (j_c pe_str (.str ("y" : Str))) (j_ac (j_tup j_an) (j_ac (j_c pe_str (.str ("z" : Str))) j_an)))))) j_mn)))) (pg_tup rfl (pgs_cons (pg_name (i := 0) sc__law_fixed_books.nd rfl (Or.inl rfl)) (pgs_cons (pg_name (i := 1) sc__law_fixed_books.nd rfl (Or.inl rfl)) (pgs_cons (pg_name (i := 2) sc__law_fixed_books.nd rfl (Or.inl rfl)) pgs_nil))))) rfl (by decide)) (j_seq (j_setL (ps_set (i := 3) sc__law_fixed_books.nd rfl (Or.inl rfl) (j_disp (j_ac (j_tup (j_ac (j_tup j_an) (j_ac (j_tup j_an) (j_ac (j_tup j_an) (j_ac (j_tup j_an) j_an))))) (j_ac (lv (j_disp (j_ac (j_tup j_an) (j_ac (j_tup j_an) (j_ac (j_tup j_an) (j_ac (j_tup j_an) j_an)))))) (j_ac (j_tup (j_ac (j_tup j_an) (j_ac (j_tup j_an) (j_ac (j_tup j_an) j_an)))) (j_ac (j_tup (j_ac (j_tup j_an) (j_ac (j_tup j_an) (j_ac (j_tup j_an) (j_ac (j_tup j_an) (j_ac (j_tup j_an) j_an)))))) (j_ac (j_tup (j_ac (j_tup j_an) (j_ac (j_tup j_an) (j_ac (j_tup j_an) (j_ac (lv (j_disp j_an)) j_an))))) j_an)))))))) (j_seq (j_ext (ps_expr (pe_bm PySem.F.plainAttrs_list PySem.F.slot_list_extend PySem.F.type_list_extend mt_extend (pv 3) (pa_cons (lw (j_disp (j_ac (j_tup (j_ac (j_tup (j_ac (j_var 0 (pv 0)) (j_ac (j_var 0 (pv 0)) j_an))) (j_ac (j_tup (j_ac (j_var 1 (pv 1)) (j_ac (j_var 1 (pv 1)) j_an))) (j_ac (j_tup (j_ac (j_tup (j_ac (j_c pe_str (.str ("b" : Str))) (j_ac (j_c pe_str (.str ("a" : Str))) j_an))) (j_ac (j_tup (j_ac (j_c pe_str (.str ("a" : Str))) (j_ac (j_c pe_str (.str ("a" : Str))) j_an))) j_an))) (j_ac (j_tup j_an) j_an))))) (j_ac (j_tup (j_ac (j_tup j_an) (j_ac (j_tup j_an) (j_ac (j_tup j_an) (j_ac (j_tup (j_ac (j_var 2 (pv 2)) (j_ac (j_var 2 (pv 2)) j_an))) j_an))))) j_an)))) pa_nil)))) (j_seq (j_ext (ps_expr (pe_bm PySem.F.plainAttrs_list PySem.F.slot_list_extend PySem.F.type_list_extend mt_extend (pv 3) (pa_cons (lw (j_disp (j_ac (j_tup (j_ac (j_tup j_an) (j_ac (j_tup j_an) (j_ac (j_tup (j_ac (j_tup (j_ac (j_c pe_str (.str ("a" : Str))) j_an)) j_an)) (j_ac (j_tup j_an) j_an))))) (j_ac (j_tup (j_ac (j_tup j_an) (j_ac (j_tup j_an) (j_ac (j_tup (j_ac (lv (j_disp (j_ac (j_c pe_str (.str ("a" : Str))) (j_ac (j_c pe_str (.str ("b" : Str))) j_an)))) j_an)) (j_ac (j_tup j_an) j_an))))) (j_ac (j_tup (j_ac (j_tup j_an) (j_ac (j_tup j_an) (j_ac (j_tup j_an) (j_ac (j_tup (j_ac (j_var 2 (pv 2)) (j_ac (lv (j_cbL sp_listL (pe_callTy call_list_of (by rfl) T.b_list (by decide +kernel) (j_acW (j_peek 2 (pv 2)) j_anW)))) j_an))) j_an))))) j_an))))) pa_nil)))) (j_last (j_ret (lv (j_opL sp_catL (pe_op op_addJ (j_peek 3 (pv 3)) (lw (j_disp (j_ac (j_tup (j_ac (j_tup (j_ac (j_c pe_int (.int 1)) j_an)) (j_ac (j_tup j_an) (j_ac (j_tup j_an) (j_ac (j_tup j_an) j_an))))) (j_ac (j_tup (j_ac (j_tup j_an) (j_ac (j_tup (j_ac (j_c pe_str (.str ("a" : Str))) j_an)) (j_ac (j_tup j_an) (j_ac (j_tup j_an) j_an))))) (j_ac (j_tup (j_ac (j_tup j_an) (j_ac (j_tup j_an) (j_ac (j_tup j_an) (j_ac (j_c pe_non .non) j_an))))) (j_ac (j_tup (j_ac (j_tup (j_ac (j_var 0 (pv 0)) (j_ac (j_var 2 (pv 2)) j_an))) (j_ac (j_tup j_an) (j_ac (j_tup j_an) (j_ac (j_tup j_an) j_an))))) j_an))))))))))))))) : PSs _ _ (tS _ F0 α0 H g__law_fixed_books))
abbrev s__law_right : Stmt := top 39
abbrev N__law_right : List Str := ["_law_thing", "_law_integer", "_law_pairs", "_law_due", "_law_seen"]
theorem sc__law_right : FnScope N__law_right ["_law_thing"] (defScope s__law_right) := ⟨rfl, rfl, rfl, by decide +kernel, rfl, by decide +kernel, by decide +kernel⟩
def g__law_right : GS := (sSeq (sSet (eAnd (e1 (gIsi .int) (eP 0)) (eNot (e1 (gIsi .bool) (eP 0)))) (bName 1)) (sSeq (sSetL 2 (lDisp (aC (eTup (aC (eCall f_is_integer (aC (eV 0) aN)) (aC (eV 1) aN))) (aC (eTup (aC (eCall f_is_number (aC (eV 0) aN)) (aC (eCall f__law_is_number (aC (eV 0) aN)) aN))) aN)))) (sSeq (sExt 2 (eL (lDisp (aC (eTup (aC (eCall f_is_name (aC (eV 0) aN)) (aC (eCall f__law_is_name (aC (eV 0) aN)) aN))) (aC (eTup (aC (eCall f_is_set (aC (eV 0) aN)) (aC (eCall f__law_is_set (aC (eV 0) aN)) aN))) aN))))) (sSeq (sExt 2 (eL (lDisp (aC (eTup (aC (eCall f_is_source (aC (eV 0) aN)) (aC (eCall f__law_is_source (aC (eV 0) aN)) aN))) (aC (eTup (aC (eCall f_is_party (aC (eV 0) aN)) (aC (eCall f__law_is_party (aC (eV 0) aN)) aN))) aN))))) (sSeq (sExt 2 (eL (lDisp (aC (eTup (aC (eCall f_is_build (aC (eV 0) aN)) (aC (eCall f__law_is_build (aC (eV 0) aN)) aN))) (aC (eTup (aC (eCall f_is_fact (aC (eV 0) aN)) (aC (eCall f__law_is_pair (aC (eV 0) aN)) aN))) aN))))) (sSeq (sApp 2 (eTup (aC (eCall f_is_book (aC (eV 0) aN)) (aC (eCall f__law_is_book (aC (eV 0) aN)) aN)))) (sRet (e2 (gEq false) (eL (lComp [4, 3] (iOf (eP 2)) (bTup 2 (bCons (bName 4) (bCons (bName 3) bNil))) (tOrJ (tNotJ (tTru (e1 (gIsi .bool) (eP 4)))) (tOf (e2 (gEq true) (eP 4) (eP 3)))) (eV 3))) (eL (lDisp aN))))))))))
def f__law_right : FN := runDef 5 g__law_right
theorem ok__law_right {P : Program} {w : World} {K : PySem.W.Frag} {mg : Str → Option Value} {base : Heap} (h : Here K mg "_law_right" "_law_right" s__law_right ["_law_thing"]) (T : Txt K mg) (d__law_is_number : Does P w K mg base 1 "_law_is_number" ["_law_thing"] f__law_is_number) (d_is_number : Does P w K mg base 2 "is_number" ["thing"] f_is_number) (d_is_integer : Does P w K mg base 1 "is_integer" ["thing"] f_is_integer) (d__law_is_set : Does P w K mg base 3 "_law_is_set" ["_law_thing"] f__law_is_set) (d_is_set : Does P w K mg base 3 "is_set" ["thing"] f_is_set) (d__law_is_name : Does P w K mg base 1 "_law_is_name" ["_law_thing"] f__law_is_name) (d_is_name : Does P w K mg base 1 "is_name" ["thing"] f_is_name) (d__law_is_party : Does P w K mg base 2 "_law_is_party" ["_law_thing"] f__law_is_party) (d_is_party : Does P w K mg base 2 "is_party" ["thing"] f_is_party) (d__law_is_source : Does P w K mg base 4 "_law_is_source" ["_law_thing"] f__law_is_source) (d_is_source : Does P w K mg base 4 "is_source" ["thing"] f_is_source) (d__law_is_pair : Does P w K mg base 3 "_law_is_pair" ["_law_thing"] f__law_is_pair) (d_is_fact : Does P w K mg base 2 "is_fact" ["thing"] f_is_fact) (d__law_is_build : Does P w K mg base 3 "_law_is_build" ["_law_thing"] f__law_is_build) (d_is_build : Does P w K mg base 3 "is_build" ["thing"] f_is_build) (d__law_is_book : Does P w K mg base 5 "_law_is_book" ["_law_thing"] f__law_is_book) (d_is_book : Does P w K mg base 5 "is_book" ["thing"] f_is_book) : Does P w K mg base 6 "_law_right" ["_law_thing"] f__law_right :=
  does_of h sc__law_right fun fa cdv A outer s H E F0 α0 hr => ((j_seq (j_asg (sg_name (i := 1) (vs := [1]) (by decide)) (ps_set (i := 1) sc__law_right.nd rfl (Or.inl rfl) (j_andV (j_isi (T := .int) (pe_callB call_isi (by rfl) T.b_isinstance (by decide +kernel) (pa_cons (j_peek 0 (pv 0)) (pa_cons (pe_bltn (by rfl) T.b_int (by decide +kernel) rfl) pa_nil)))) (j_one (j_notV (j_isi (T := .bool) (pe_callB call_isi (by rfl) T.b_isinstance (by decide +kernel) (pa_cons (j_peek 0 (pv 0)) (pa_cons (pe_bltn (by rfl) T.b_bool (by decide +kernel) rfl) pa_nil))))))))) (j_seq (j_setL (ps_set (i := 2) sc__law_right.nd rfl (Or.inl rfl) (j_disp (j_ac (j_tup (j_ac (j_callD d_is_integer hr (by decide) (by rfl) (j_ac (j_var 0 (pv 0)) j_an) (fun ρ S ds S' z => len_1 z) rfl) (j_ac (j_var 1 (pv 1)) j_an))) (j_ac (j_tup (j_ac (j_callD d_is_number hr (by decide) (by rfl) (j_ac (j_var 0 (pv 0)) j_an) (fun ρ S ds S' z => len_1 z) rfl) (j_ac (j_callD d__law_is_number hr (by decide) (by rfl) (j_ac (j_var 0 (pv 0)) j_an) (fun ρ S ds S' z => len_1 z) rfl) j_an))) j_an))))) (j_seq (j_ext (ps_expr (pe_bm PySem.F.plainAttrs_list PySem.F.slot_list_extend PySem.F.type_list_extend mt_extend (pv 2) (pa_cons (lw (j_disp (j_ac (j_tup (j_ac (j_callD d_is_name hr (by decide) (by rfl) (j_ac (j_var 0 (pv 0)) j_an) (fun ρ S ds S' z => len_1 z) rfl) (j_ac (j_callD d__law_is_name hr (by decide) (by rfl) (j_ac (j_var 0 (pv 0)) j_an) (fun ρ S ds S' z => len_1 z) rfl) j_an))) (j_ac (j_tup (j_ac (j_callD d_is_set hr (by decide) (by rfl) (j_ac (j_var 0 (pv 0)) j_an) (fun ρ S ds S' z => len_1 z) rfl) (j_ac (j_callD d__law_is_set hr (by decide) (by rfl) (j_ac (j_var 0 (pv 0)) j_an) (fun ρ S ds S' z => len_1 z) rfl) j_an))) j_an)))) pa_nil)))) (j_seq (j_ext (ps_expr (pe_bm PySem.F.plainAttrs_list PySem.F.slot_list_extend PySem.F.type_list_extend mt_extend (pv 2) (pa_cons (lw (j_disp (j_ac (j_tup (j_ac (j_callD d_is_source hr (by decide) (by rfl) (j_ac (j_var 0 (pv 0)) j_an) (fun ρ S ds S' z => len_1 z) rfl) (j_ac (j_callD d__law_is_source hr (by decide) (by rfl) (j_ac (j_var 0 (pv 0)) j_an) (fun ρ S ds S' z => len_1 z) rfl) j_an))) (j_ac (j_tup (j_ac (j_callD d_is_party hr (by decide) (by rfl) (j_ac (j_var 0 (pv 0)) j_an) (fun ρ S ds S' z => len_1 z) rfl) (j_ac (j_callD d__law_is_party hr (by decide) (by rfl) (j_ac (j_var 0 (pv 0)) j_an) (fun ρ S ds S' z => len_1 z) rfl) j_an))) j_an)))) pa_nil)))) (j_seq (j_ext (ps_expr (pe_bm PySem.F.plainAttrs_list PySem.F.slot_list_extend PySem.F.type_list_extend mt_extend (pv 2) (pa_cons (lw (j_disp (j_ac (j_tup (j_ac (j_callD d_is_build hr (by decide) (by rfl) (j_ac (j_var 0 (pv 0)) j_an) (fun ρ S ds S' z => len_1 z) rfl) (j_ac (j_callD d__law_is_build hr (by decide) (by rfl) (j_ac (j_var 0 (pv 0)) j_an) (fun ρ S ds S' z => len_1 z) rfl) j_an))) (j_ac (j_tup (j_ac (j_callD d_is_fact hr (by decide) (by rfl) (j_ac (j_var 0 (pv 0)) j_an) (fun ρ S ds S' z => len_1 z) rfl) (j_ac (j_callD d__law_is_pair hr (by decide) (by rfl) (j_ac (j_var 0 (pv 0)) j_an) (fun ρ S ds S' z => len_1 z) rfl) j_an))) j_an)))) pa_nil)))) (j_seq (j_app (ps_expr (pe_bm PySem.F.plainAttrs_list PySem.F.slot_list_append PySem.F.type_list_append mt_append (pv 2) (pa_cons (j_tup (j_ac (j_callD d_is_book hr (by decide) (by rfl) (j_ac (j_var 0 (pv 0)) j_an) (fun ρ S ds S' z => len_1 z) rfl) (j_ac (j_callD d__law_is_book hr (by decide) (by rfl) (j_ac (j_var 0 (pv 0)) j_an) (fun ρ S ds S' z => len_1 z) rfl) j_an))) pa_nil)))) (j_last (j_ret (j_op sp_eq (pe_cmpR (op_eqD hr.units) (lw (j_comp (sg_tup (n := 2) (sg_cons (sg_name (i := 4) (vs := [4, 3]) (by decide)) (sg_cons (sg_name (i := 3) (vs := [4, 3]) (by decide)) sg_nil))) (pe_lc (own := [("_law_seen", 4), ("_law_due", 3)]) (g := (gTup _ 2 (gCons (gName 4) (gCons (gName 3) gNil)))) (tt := tT _ (tOrJ (tNotJ (tTru (e1 (gIsi .bool) (eP 4)))) (tOf (e2 (gEq true) (eP 4) (eP 3))))) (te := tV _ (eV 3)) (by rfl) sc__law_right.nd (j_itW (j_peek 2 (pv 2))) (blkOk_by (own := [("_law_seen", 4), ("_law_due", 3)]) (N := N__law_right) (sc := (defScope s__law_right)) (by decide +kernel)) (fun _ _ _ _ _ => (pg_tup rfl (pgs_cons (pg_name (i := 4) sc__law_right.nd rfl (Or.inl rfl)) (pgs_cons (pg_name (i := 3) sc__law_right.nd rfl (Or.inl rfl)) pgs_nil)))) (fun _ _ _ _ _ => (pts_one (PW.pt (j_or (j_not (j_tru (vw (j_isi (T := .bool) (pe_callB call_isi (by rfl) T.b_isinstance (by decide +kernel) (pa_cons (j_peek 4 (pv 4)) (pa_cons (pe_bltn (by rfl) T.b_bool (by decide +kernel) rfl) pa_nil))))))) (j_or1 (j_cmpT sp_ne (pt_cmpR (op_neD hr.units) (j_peek 4 (pv 4)) (j_peek 3 (pv 3)) (nomark _)))))))) (fun _ _ _ _ _ => (j_var 3 (pv 3)))))) (lw (j_disp j_an)) (nomark _))))))))))) : PSs _ _ (tS _ F0 α0 H g__law_right))
abbrev s_law : Stmt := top 40
abbrev N_law : List Str := ["_law_script", "_law_feed_here", "_law_whole", "_law_parts", "_law_part", "_law_one", "_law_picked", "_law_things", "_law_lap", "_law_thing"]
theorem sc_law : FnScope N_law ["_law_script"] (defScope s_law) := ⟨rfl, rfl, rfl, by decide +kernel, rfl, by decide +kernel, by decide +kernel⟩
def g_law : GS := (sSeq (sSet (eCall f__law_feed (aC (eV 0) aN)) (bName 1)) (sSeq (sSet (eCall f__law_book (aC (eV 1) aN)) (bName 2)) (sSeq (sSetL 3 (lDisp (aC (eV 2) aN))) (sSeq (sFor (iOf (eV 2)) (bName 4) (sSeq (sApp 3 (eV 4)) (sFor (iOf (eV 4)) (bName 5) (sExt 3 (eL (l2 gCatL (eL (lDisp (aC (eV 5) aN))) (eL (aGL gListL (aC (eP 5) aN))))))))) (sFreeze 3 (sSeq (sSet (eL (lComp [8] (iRg1 (aC (eC (.int 40)) aN)) (bName 8) cYes (eCall f__law_pick (aC (eV 1) (aC (eV 3) aN))))) (bName 6)) (sSeq (sSetL 7 (l2 gCatL (eL (l2 gCatL (eL (aGL gListL (aC (eP 2) aN))) (eP 6))) (eL (lComp [9] (iOf (eP 6)) (bName 9) cYes (eCall (f__law_bent 12) (aC (eV 1) (aC (eV 9) aN))))))) (sSeq (sExt 7 (eL (l2 gCatL (eL (lDisp (aC (eV 2) aN))) (eL (lComp [8] (iRg1 (aC (eC (.int 12)) aN)) (bName 8) cYes (eCall (f__law_bent 12) (aC (eV 1) (aC (eV 2) aN)))))))) (sSeq (sExt 7 (eL (lComp [8] (iRg1 (aC (eC (.int 6)) aN)) (bName 8) cYes (eCall f__law_odd (aC (eV 1) aN))))) (sSeq (sExt 7 (e2 gAdd (eCall f__law_fixed aN) (eCall f__law_fixed_books aN))) (sRet (e2 (gEq false) (eL (lComp [9] (iOf (eP 7)) (bName 9) (tNotJ (tTru (eCall f__law_right (aC (eV 9) aN)))) (eV 9))) (eL (lDisp aN))))))))))))))
def f_law : FN := runDef 10 g_law
theorem ok_law {P : Program} {w : World} {K : PySem.W.Frag} {mg : Str → Option Value} {base : Heap} (h : Here K mg "law" "law" s_law ["_law_script"]) (T : Txt K mg) (d__law_feed : Does P w K mg base 1 "_law_feed" ["_law_script"] f__law_feed) (d__law_book : Does P w K mg base 4 "_law_book" ["_law_feed_here"] f__law_book) (d__law_pick : Does P w K mg base 2 "_law_pick" ["_law_feed_here", "_law_things"] f__law_pick) (d__law_bent : Does P w K mg base 16 "_law_bent" ["_law_feed_here", "_law_thing"] (f__law_bent 12)) (d__law_odd : Does P w K mg base 3 "_law_odd" ["_law_feed_here"] f__law_odd) (d__law_fixed : Does P w K mg base 1 "_law_fixed" [] f__law_fixed) (d__law_fixed_books : Does P w K mg base 1 "_law_fixed_books" [] f__law_fixed_books) (d__law_right : Does P w K mg base 6 "_law_right" ["_law_thing"] f__law_right) : Does P w K mg base 17 "law" ["_law_script"] f_law :=
  does_of h sc_law fun fa cdv A outer s H E F0 α0 hr => ((j_seq (j_asg (sg_name (i := 1) (vs := [1]) (by decide)) (ps_set (i := 1) sc_law.nd rfl (Or.inr rfl) (j_callD d__law_feed hr (by decide) (by rfl) (j_ac (j_var 0 (pv 0)) j_an) (fun ρ S ds S' z => len_1 z) rfl))) (j_seq (j_asg (sg_name (i := 2) (vs := [2]) (by decide)) (ps_set (i := 2) sc_law.nd rfl (Or.inr rfl) (j_callD d__law_book hr (by decide) (by rfl) (j_ac (j_var 1 (pv 1)) j_an) (fun ρ S ds S' z => len_1 z) rfl))) (j_seq (j_setL (ps_set (i := 3) sc_law.nd rfl (Or.inr rfl) (j_disp (j_ac (j_var 2 (pv 2)) j_an)))) (j_seq (j_for (sg_name (i := 4) (vs := [4]) (by decide)) (ps_for PassesOwn.never rfl (j_it (j_var 2 (pv 2))) (pg_name (i := 4) sc_law.nd rfl (Or.inl rfl)) (j_seq (j_app (ps_expr (pe_bm PySem.F.plainAttrs_list PySem.F.slot_list_append PySem.F.type_list_append mt_append (pv 3) (pa_cons (j_var 4 (pv 4)) pa_nil)))) (j_last (j_for (sg_name (i := 5) (vs := [5]) (by decide)) (ps_for PassesOwn.never rfl (j_it (j_var 4 (pv 4))) (pg_name (i := 5) sc_law.nd rfl (Or.inl rfl)) (j_last (j_ext (ps_expr (pe_bm PySem.F.plainAttrs_list PySem.F.slot_list_extend PySem.F.type_list_extend mt_extend (pv 3) (pa_cons (lw (j_opL sp_catL (pe_op op_addJ (lw (j_disp (j_ac (j_var 5 (pv 5)) j_an))) (lw (j_cbL sp_listL (pe_callTy call_list_of (by rfl) T.b_list (by decide +kernel) (j_acW (j_peek 5 (pv 5)) j_anW))))))) pa_nil))))))))))) (j_freeze 3 (j_seq (j_asg (sg_name (i := 6) (vs := [6]) (by decide)) (j_setV (i := 0) (j_setC (sg_name (i := 8) (vs := [8]) (by decide)) (ps_setLc (i := 6) (own := [("_law_lap", 8)]) (g := (gName 8)) (tt := tT _ cYes) (te := tV _ (eCall f__law_pick (aC (eV 1) (aC (eV 3) aN)))) (by rfl) sc_law.nd rfl rfl (sw_true rfl rfl rfl (by decide +kernel)) (j_iw (j_rg1 (pi_range1 (by rfl) T.b_range (j_acW (vw (j_c pe_int (.int 40))) j_anW)))) (blkOk_by (own := [("_law_lap", 8)]) (N := N_law) (sc := (defScope s_law)) (by decide +kernel)) (fun _ _ _ _ _ => (pg_name (i := 8) sc_law.nd rfl (Or.inl rfl))) (fun _ _ _ _ _ => j_yes) (fun _ _ _ _ _ => (j_callD d__law_pick hr (by decide) (by rfl) (j_ac (j_var 1 (pv 1)) (j_ac (j_var 3 (pv 3)) j_an)) (fun ρ S ds S' z => len_2 z) rfl)))))) (j_seq (j_setL (ps_set (i := 7) sc_law.nd rfl (Or.inl rfl) (j_opL sp_catL (pe_op op_addJ (lw (j_opL sp_catL (pe_op op_addJ (lw (j_cbL sp_listL (pe_callTy call_list_of (by rfl) T.b_list (by decide +kernel) (j_acW (j_peek 2 (pv 2)) j_anW)))) (j_peek 6 (pv 6))))) (lw (j_comp (sg_name (i := 9) (vs := [9]) (by decide)) (pe_lc (own := [("_law_thing", 9)]) (g := (gName 9)) (tt := tT _ cYes) (te := tV _ (eCall (f__law_bent 12) (aC (eV 1) (aC (eV 9) aN)))) (by rfl) sc_law.nd (j_itW (j_peek 6 (pv 6))) (blkOk_by (own := [("_law_thing", 9)]) (N := N_law) (sc := (defScope s_law)) (by decide +kernel)) (fun _ _ _ _ _ => (pg_name (i := 9) sc_law.nd rfl (Or.inl rfl))) (fun _ _ _ _ _ => j_yes) (fun _ _ _ _ _ => (j_callD d__law_bent hr (by decide) (by rfl) (j_ac (j_var 1 (pv 1)) (j_ac (j_var 9 (pv 9)) j_an)) (fun ρ S ds S' z => len_2 z) rfl))))))))) (j_seq (j_ext (ps_expr (pe_bm PySem.F.plainAttrs_list PySem.F.slot_list_extend PySem.F.type_list_extend mt_extend (pv 7) (pa_cons (lw (j_opL sp_catL (pe_op op_addJ (lw (j_disp (j_ac (j_var 2 (pv 2)) j_an))) (lw (j_comp (sg_name (i := 8) (vs := [8]) (by decide)) (pe_lc (own := [("_law_lap", 8)]) (g := (gName 8)) (tt := tT _ cYes) (te := tV _ (eCall (f__law_bent 12) (aC (eV 1) (aC (eV 2) aN)))) (by rfl) sc_law.nd (j_iw (j_rg1 (pi_range1 (by rfl) T.b_range (j_acW (vw (j_c pe_int (.int 12))) j_anW)))) (blkOk_by (own := [("_law_lap", 8)]) (N := N_law) (sc := (defScope s_law)) (by decide +kernel)) (fun _ _ _ _ _ => (pg_name (i := 8) sc_law.nd rfl (Or.inl rfl))) (fun _ _ _ _ _ => j_yes) (fun _ _ _ _ _ => (j_callD d__law_bent hr (by decide) (by rfl) (j_ac (j_var 1 (pv 1)) (j_ac (j_var 2 (pv 2)) j_an)) (fun ρ S ds S' z => len_2 z) rfl)))))))) pa_nil)))) (j_seq (j_ext (ps_expr (pe_bm PySem.F.plainAttrs_list PySem.F.slot_list_extend PySem.F.type_list_extend mt_extend (pv 7) (pa_cons (lw (j_comp (sg_name (i := 8) (vs := [8]) (by decide)) (pe_lc (own := [("_law_lap", 8)]) (g := (gName 8)) (tt := tT _ cYes) (te := tV _ (eCall f__law_odd (aC (eV 1) aN))) (by rfl) sc_law.nd (j_iw (j_rg1 (pi_range1 (by rfl) T.b_range (j_acW (vw (j_c pe_int (.int 6))) j_anW)))) (blkOk_by (own := [("_law_lap", 8)]) (N := N_law) (sc := (defScope s_law)) (by decide +kernel)) (fun _ _ _ _ _ => (pg_name (i := 8) sc_law.nd rfl (Or.inl rfl))) (fun _ _ _ _ _ => j_yes) (fun _ _ _ _ _ => (j_callD d__law_odd hr (by decide) (by rfl) (j_ac (j_var 1 (pv 1)) j_an) (fun ρ S ds S' z => len_1 z) rfl))))) pa_nil)))) (j_seq (j_ext (ps_expr (pe_bm PySem.F.plainAttrs_list PySem.F.slot_list_extend PySem.F.type_list_extend mt_extend (pv 7) (pa_cons (vw (j_op sp_add (pe_op op_addJ (vw (j_call0 d__law_fixed hr (by decide) (by rfl))) (vw (j_call0 d__law_fixed_books hr (by decide) (by rfl)))))) pa_nil)))) (j_last (j_ret (j_op sp_eq (pe_cmpR (op_eqD hr.units) (lw (j_comp (sg_name (i := 9) (vs := [9]) (by decide)) (pe_lc (own := [("_law_thing", 9)]) (g := (gName 9)) (tt := tT _ (tNotJ (tTru (eCall f__law_right (aC (eV 9) aN))))) (te := tV _ (eV 9)) (by rfl) sc_law.nd (j_itW (j_peek 7 (pv 7))) (blkOk_by (own := [("_law_thing", 9)]) (N := N_law) (sc := (defScope s_law)) (by decide +kernel)) (fun _ _ _ _ _ => (pg_name (i := 9) sc_law.nd rfl (Or.inl rfl))) (fun _ _ _ _ _ => (pts_one (j_not (j_tru (vw (j_callD d__law_right hr (by decide) (by rfl) (j_ac (j_var 9 (pv 9)) j_an) (fun ρ S ds S' z => len_1 z) rfl)))))) (fun _ _ _ _ _ => (j_var 9 (pv 9)))))) (lw (j_disp j_an)) (nomark _))))))))))))))) : PSs _ _ (tS _ F0 α0 H g_law))
theorem fn_law {P : Program} {w : World} {K : PySem.W.Frag} {mg : Str → Option Value} {base : Heap} {fa : Addr} {fd : FuncData} (Fn : Fun K "law" "law" s_law fa fd) (T : Txt K mg) (d__law_feed : Does P w K mg base 1 "_law_feed" ["_law_script"] f__law_feed) (d__law_book : Does P w K mg base 4 "_law_book" ["_law_feed_here"] f__law_book) (d__law_pick : Does P w K mg base 2 "_law_pick" ["_law_feed_here", "_law_things"] f__law_pick) (d__law_bent : Does P w K mg base 16 "_law_bent" ["_law_feed_here", "_law_thing"] (f__law_bent 12)) (d__law_odd : Does P w K mg base 3 "_law_odd" ["_law_feed_here"] f__law_odd) (d__law_fixed : Does P w K mg base 1 "_law_fixed" [] f__law_fixed) (d__law_fixed_books : Does P w K mg base 1 "_law_fixed_books" [] f__law_fixed_books) (d__law_right : Does P w K mg base 6 "_law_right" ["_law_thing"] f__law_right) : FnOk P w K mg base CX0 17 fa fd ["_law_script"] (spF K f_law 1) :=
  def_ok Fn sc_law fun cdv A outer s H E F0 α0 hr => ((j_seq (j_asg (sg_name (i := 1) (vs := [1]) (by decide)) (ps_set (i := 1) sc_law.nd rfl (Or.inr rfl) (j_callD d__law_feed hr (by decide) (by rfl) (j_ac (j_var 0 (pv 0)) j_an) (fun ρ S ds S' z => len_1 z) rfl))) (j_seq (j_asg (sg_name (i := 2) (vs := [2]) (by decide)) (ps_set (i := 2) sc_law.nd rfl (Or.inr rfl) (j_callD d__law_book hr (by decide) (by rfl) (j_ac (j_var 1 (pv 1)) j_an) (fun ρ S ds S' z => len_1 z) rfl))) (j_seq (j_setL (ps_set (i := 3) sc_law.nd rfl (Or.inr rfl) (j_disp (j_ac (j_var 2 (pv 2)) j_an)))) (j_seq (j_for (sg_name (i := 4) (vs := [4]) (by decide)) (ps_for PassesOwn.never rfl (j_it (j_var 2 (pv 2))) (pg_name (i := 4) sc_law.nd rfl (Or.inl rfl)) (j_seq (j_app (ps_expr (pe_bm PySem.F.plainAttrs_list PySem.F.slot_list_append PySem.F.type_list_append mt_append (pv 3) (pa_cons (j_var 4 (pv 4)) pa_nil)))) (j_last (j_for (sg_name (i := 5) (vs := [5]) (by decide)) (ps_for PassesOwn.never rfl (j_it (j_var 4 (pv 4))) (pg_name (i := 5) sc_law.nd rfl (Or.inl rfl)) (j_last (j_ext (ps_expr (pe_bm PySem.F.plainAttrs_list PySem.F.slot_list_extend PySem.F.type_list_extend mt_extend (pv 3) (pa_cons (lw (j_opL sp_catL (pe_op op_addJ (lw (j_disp (j_ac (j_var 5 (pv 5)) j_an))) (lw (j_cbL sp_listL (pe_callTy call_list_of (by rfl) T.b_list (by decide +kernel) (j_acW (j_peek 5 (pv 5)) j_anW))))))) pa_nil))))))))))) (j_freeze 3 (j_seq (j_asg (sg_name (i := 6) (vs := [6]) (by decide)) (j_setV (i := 0) (j_setC (sg_name (i := 8) (vs := [8]) (by decide)) (ps_setLc (i := 6) (own := [("_law_lap", 8)]) (g := (gName 8)) (tt := tT _ cYes) (te := tV _ (eCall f__law_pick (aC (eV 1) (aC (eV 3) aN)))) (by rfl) sc_law.nd rfl rfl (sw_true rfl rfl rfl (by decide +kernel)) (j_iw (j_rg1 (pi_range1 (by rfl) T.b_range (j_acW (vw (j_c pe_int (.int 40))) j_anW)))) (blkOk_by (own := [("_law_lap", 8)]) (N := N_law) (sc := (defScope s_law)) (by decide +kernel)) (fun _ _ _ _ _ => (pg_name (i := 8) sc_law.nd rfl (Or.inl rfl))) (fun _ _ _ _ _ => j_yes) (fun _ _ _ _ _ => (j_callD d__law_pick hr (by decide) (by rfl) (j_ac (j_var 1 (pv 1)) (j_ac (j_var 3 (pv 3)) j_an)) (fun ρ S ds S' z => len_2 z) rfl)))))) (j_seq (j_setL (ps_set (i := 7) sc_law.nd rfl (Or.inl rfl) (j_opL sp_catL (pe_op op_addJ (lw (j_opL sp_catL (pe_op op_addJ (lw (j_cbL sp_listL (pe_callTy call_list_of (by rfl) T.b_list (by decide +kernel) (j_acW (j_peek 2 (pv 2)) j_anW)))) (j_peek 6 (pv 6))))) (lw (j_comp (sg_name (i := 9) (vs := [9]) (by decide)) (pe_lc (own := [("_law_thing", 9)]) (g := (gName 9)) (tt := tT _ cYes) (te := tV _ (eCall (f__law_bent 12) (aC (eV 1) (aC (eV 9) aN)))) (by rfl) sc_law.nd (j_itW (j_peek 6 (pv 6))) (blkOk_by (own := [("_law_thing", 9)]) (N := N_law) (sc := (defScope s_law)) (by decide +kernel)) (fun _ _ _ _ _ => (pg_name (i := 9) sc_law.nd rfl (Or.inl rfl))) (fun _ _ _ _ _ => j_yes) (fun _ _ _ _ _ => (j_callD d__law_bent hr (by decide) (by rfl) (j_ac (j_var 1 (pv 1)) (j_ac (j_var 9 (pv 9)) j_an)) (fun ρ S ds S' z => len_2 z) rfl))))))))) (j_seq (j_ext (ps_expr (pe_bm PySem.F.plainAttrs_list PySem.F.slot_list_extend PySem.F.type_list_extend mt_extend (pv 7) (pa_cons (lw (j_opL sp_catL (pe_op op_addJ (lw (j_disp (j_ac (j_var 2 (pv 2)) j_an))) (lw (j_comp (sg_name (i := 8) (vs := [8]) (by decide)) (pe_lc (own := [("_law_lap", 8)]) (g := (gName 8)) (tt := tT _ cYes) (te := tV _ (eCall (f__law_bent 12) (aC (eV 1) (aC (eV 2) aN)))) (by rfl) sc_law.nd (j_iw (j_rg1 (pi_range1 (by rfl) T.b_range (j_acW (vw (j_c pe_int (.int 12))) j_anW)))) (blkOk_by (own := [("_law_lap", 8)]) (N := N_law) (sc := (defScope s_law)) (by decide +kernel)) (fun _ _ _ _ _ => (pg_name (i := 8) sc_law.nd rfl (Or.inl rfl))) (fun _ _ _ _ _ => j_yes) (fun _ _ _ _ _ => (j_callD d__law_bent hr (by decide) (by rfl) (j_ac (j_var 1 (pv 1)) (j_ac (j_var 2 (pv 2)) j_an)) (fun ρ S ds S' z => len_2 z) rfl)))))))) pa_nil)))) (j_seq (j_ext (ps_expr (pe_bm PySem.F.plainAttrs_list PySem.F.slot_list_extend PySem.F.type_list_extend mt_extend (pv 7) (pa_cons (lw (j_comp (sg_name (i := 8) (vs := [8]) (by decide)) (pe_lc (own := [("_law_lap", 8)]) (g := (gName 8)) (tt := tT _ cYes) (te := tV _ (eCall f__law_odd (aC (eV 1) aN))) (by rfl) sc_law.nd (j_iw (j_rg1 (pi_range1 (by rfl) T.b_range (j_acW (vw (j_c pe_int (.int 6))) j_anW)))) (blkOk_by (own := [("_law_lap", 8)]) (N := N_law) (sc := (defScope s_law)) (by decide +kernel)) (fun _ _ _ _ _ => (pg_name (i := 8) sc_law.nd rfl (Or.inl rfl))) (fun _ _ _ _ _ => j_yes) (fun _ _ _ _ _ => (j_callD d__law_odd hr (by decide) (by rfl) (j_ac (j_var 1 (pv 1)) j_an) (fun ρ S ds S' z => len_1 z) rfl))))) pa_nil)))) (j_seq (j_ext (ps_expr (pe_bm PySem.F.plainAttrs_list PySem.F.slot_list_extend PySem.F.type_list_extend mt_extend (pv 7) (pa_cons (vw (j_op sp_add (pe_op op_addJ (vw (j_call0 d__law_fixed hr (by decide) (by rfl))) (vw (j_call0 d__law_fixed_books hr (by decide) (by rfl)))))) pa_nil)))) (j_last (j_ret (j_op sp_eq (pe_cmpR (op_eqD hr.units) (lw (j_comp (sg_name (i := 9) (vs := [9]) (by decide)) (pe_lc (own := [("_law_thing", 9)]) (g := (gName 9)) (tt := tT _ (tNotJ (tTru (eCall f__law_right (aC (eV 9) aN))))) (te := tV _ (eV 9)) (by rfl) sc_law.nd (j_itW (j_peek 7 (pv 7))) (blkOk_by (own := [("_law_thing", 9)]) (N := N_law) (sc := (defScope s_law)) (by decide +kernel)) (fun _ _ _ _ _ => (pg_name (i := 9) sc_law.nd rfl (Or.inl rfl))) (fun _ _ _ _ _ => (pts_one (j_not (j_tru (vw (j_callD d__law_right hr (by decide) (by rfl) (j_ac (j_var 9 (pv 9)) j_an) (fun ρ S ds S' z => len_1 z) rfl)))))) (fun _ _ _ _ _ => (j_var 9 (pv 9)))))) (lw (j_disp j_an)) (nomark _))))))))))))))) : PSs _ _ (tS _ F0 α0 H g_law))
theorem all_mk {l : PySem.W.OpenLaw} {w : World} {K : PySem.W.Frag} {h : Heap} {mg : Str → Option Value} {fa : Addr} (X : K.In h) (G : h.Ns mainGlobals mg) (hfa : mg "law" = some (.ref fa))
    {f0 f1 f2 f3 f4 f5 f6 f7 f8 f9 f10 f11 f12 f13 f14 f15 f16 f17 f18 f19 f20 f21 f22 f23 f24 f25 f26 f27 f28 f29 f30 f31 f32 f33 f34 f35 : Addr} {od0 an0 od1 an1 od2 an2 od3 an3 od4 an4 od5 an5 od6 an6 od7 an7 od8 an8 od9 an9 od10 an10 od11 an11 od12 an12 od13 an13 od14 an14 od15 an15 od16 an16 od17 an17 od18 an18 od19 an19 od20 an20 od21 an21 od22 an22 od23 an23 od24 an24 od25 an25 od26 an26 od27 an27 od28 an28 od29 an29 od30 an30 od31 an31 od32 an32 od33 an33 od34 an34 od35 an35 : Option Addr} {sl0 sl1 sl2 sl3 sl4 sl5 sl6 sl7 sl8 sl9 sl10 sl11 sl12 sl13 sl14 sl15 sl16 sl17 sl18 sl19 sl20 sl21 sl22 sl23 sl24 sl25 sl26 sl27 sl28 sl29 sl30 sl31 sl32 sl33 sl34 sl35 : Array (Option Value)} {oc0 kV0 dc0 pm0 cd0 ct0 oc1 kV1 dc1 pm1 cd1 ct1 oc2 kV2 dc2 pm2 cd2 ct2 oc3 kV3 dc3 pm3 cd3 ct3 oc4 kV4 dc4 pm4 cd4 ct4 oc5 kV5 dc5 pm5 cd5 ct5 oc6 kV6 dc6 pm6 cd6 ct6 oc7 kV7 dc7 pm7 cd7 ct7 oc8 kV8 dc8 pm8 cd8 ct8 oc9 kV9 dc9 pm9 cd9 ct9 oc10 kV10 dc10 pm10 cd10 ct10 oc11 kV11 dc11 pm11 cd11 ct11 oc12 kV12 dc12 pm12 cd12 ct12 oc13 kV13 dc13 pm13 cd13 ct13 oc14 kV14 dc14 pm14 cd14 ct14 oc15 kV15 dc15 pm15 cd15 ct15 oc16 kV16 dc16 pm16 cd16 ct16 oc17 kV17 dc17 pm17 cd17 ct17 oc18 kV18 dc18 pm18 cd18 ct18 oc19 kV19 dc19 pm19 cd19 ct19 oc20 kV20 dc20 pm20 cd20 ct20 oc21 kV21 dc21 pm21 cd21 ct21 oc22 kV22 dc22 pm22 cd22 ct22 oc23 kV23 dc23 pm23 cd23 ct23 oc24 kV24 dc24 pm24 cd24 ct24 oc25 kV25 dc25 pm25 cd25 ct25 oc26 kV26 dc26 pm26 cd26 ct26 oc27 kV27 dc27 pm27 cd27 ct27 oc28 kV28 dc28 pm28 cd28 ct28 oc29 kV29 dc29 pm29 cd29 ct29 oc30 kV30 dc30 pm30 cd30 ct30 oc31 kV31 dc31 pm31 cd31 ct31 oc32 kV32 dc32 pm32 cd32 ct32 oc33 kV33 dc33 pm33 cd33 ct33 oc34 kV34 dc34 pm34 cd34 ct34 oc35 kV35 dc35 pm35 cd35 ct35 : Value} {t_FIRST_SIGNS t_SIGNS t_LONGEST_NAME : Tok}
    (a0 : PySem.W.nsIn K mainGlobals "is_integer" = some (some (.ref f0))) (l0 : K.lookup f0 = some ⟨oc0, od0, .func (PySem.W.fnOf "is_integer" "is_integer" (defArgs s_is_integer) (defBody s_is_integer) (defScope s_is_integer) .none kV0 dc0 pm0 an0 cd0 ct0), sl0⟩) (c0 : PySem.W.codeIn K cd0 "is_integer" = true) (k0 : PySem.W.keepIn K (.ref f0) = true)
    (a1 : PySem.W.nsIn K mainGlobals "is_number" = some (some (.ref f1))) (l1 : K.lookup f1 = some ⟨oc1, od1, .func (PySem.W.fnOf "is_number" "is_number" (defArgs s_is_number) (defBody s_is_number) (defScope s_is_number) .none kV1 dc1 pm1 an1 cd1 ct1), sl1⟩) (c1 : PySem.W.codeIn K cd1 "is_number" = true) (k1 : PySem.W.keepIn K (.ref f1) = true)
    (a2 : PySem.W.nsIn K mainGlobals "is_name" = some (some (.ref f2))) (l2 : K.lookup f2 = some ⟨oc2, od2, .func (PySem.W.fnOf "is_name" "is_name" (defArgs s_is_name) (defBody s_is_name) (defScope s_is_name) .none kV2 dc2 pm2 an2 cd2 ct2), sl2⟩) (c2 : PySem.W.codeIn K cd2 "is_name" = true) (k2 : PySem.W.keepIn K (.ref f2) = true)
    (a3 : PySem.W.nsIn K mainGlobals "is_names" = some (some (.ref f3))) (l3 : K.lookup f3 = some ⟨oc3, od3, .func (PySem.W.fnOf "is_names" "is_names" (defArgs s_is_names) (defBody s_is_names) (defScope s_is_names) .none kV3 dc3 pm3 an3 cd3 ct3), sl3⟩) (c3 : PySem.W.codeIn K cd3 "is_names" = true) (k3 : PySem.W.keepIn K (.ref f3) = true)
    (a4 : PySem.W.nsIn K mainGlobals "is_rising" = some (some (.ref f4))) (l4 : K.lookup f4 = some ⟨oc4, od4, .func (PySem.W.fnOf "is_rising" "is_rising" (defArgs s_is_rising) (defBody s_is_rising) (defScope s_is_rising) .none kV4 dc4 pm4 an4 cd4 ct4), sl4⟩) (c4 : PySem.W.codeIn K cd4 "is_rising" = true) (k4 : PySem.W.keepIn K (.ref f4) = true)
    (a5 : PySem.W.nsIn K mainGlobals "is_set" = some (some (.ref f5))) (l5 : K.lookup f5 = some ⟨oc5, od5, .func (PySem.W.fnOf "is_set" "is_set" (defArgs s_is_set) (defBody s_is_set) (defScope s_is_set) .none kV5 dc5 pm5 an5 cd5 ct5), sl5⟩) (c5 : PySem.W.codeIn K cd5 "is_set" = true) (k5 : PySem.W.keepIn K (.ref f5) = true)
    (a6 : PySem.W.nsIn K mainGlobals "is_row" = some (some (.ref f6))) (l6 : K.lookup f6 = some ⟨oc6, od6, .func (PySem.W.fnOf "is_row" "is_row" (defArgs s_is_row) (defBody s_is_row) (defScope s_is_row) .none kV6 dc6 pm6 an6 cd6 ct6), sl6⟩) (c6 : PySem.W.codeIn K cd6 "is_row" = true) (k6 : PySem.W.keepIn K (.ref f6) = true)
    (a7 : PySem.W.nsIn K mainGlobals "is_source" = some (some (.ref f7))) (l7 : K.lookup f7 = some ⟨oc7, od7, .func (PySem.W.fnOf "is_source" "is_source" (defArgs s_is_source) (defBody s_is_source) (defScope s_is_source) .none kV7 dc7 pm7 an7 cd7 ct7), sl7⟩) (c7 : PySem.W.codeIn K cd7 "is_source" = true) (k7 : PySem.W.keepIn K (.ref f7) = true)
    (a8 : PySem.W.nsIn K mainGlobals "is_party" = some (some (.ref f8))) (l8 : K.lookup f8 = some ⟨oc8, od8, .func (PySem.W.fnOf "is_party" "is_party" (defArgs s_is_party) (defBody s_is_party) (defScope s_is_party) .none kV8 dc8 pm8 an8 cd8 ct8), sl8⟩) (c8 : PySem.W.codeIn K cd8 "is_party" = true) (k8 : PySem.W.keepIn K (.ref f8) = true)
    (a9 : PySem.W.nsIn K mainGlobals "is_build" = some (some (.ref f9))) (l9 : K.lookup f9 = some ⟨oc9, od9, .func (PySem.W.fnOf "is_build" "is_build" (defArgs s_is_build) (defBody s_is_build) (defScope s_is_build) .none kV9 dc9 pm9 an9 cd9 ct9), sl9⟩) (c9 : PySem.W.codeIn K cd9 "is_build" = true) (k9 : PySem.W.keepIn K (.ref f9) = true)
    (a10 : PySem.W.nsIn K mainGlobals "is_fact" = some (some (.ref f10))) (l10 : K.lookup f10 = some ⟨oc10, od10, .func (PySem.W.fnOf "is_fact" "is_fact" (defArgs s_is_fact) (defBody s_is_fact) (defScope s_is_fact) .none kV10 dc10 pm10 an10 cd10 ct10), sl10⟩) (c10 : PySem.W.codeIn K cd10 "is_fact" = true) (k10 : PySem.W.keepIn K (.ref f10) = true)
    (a11 : PySem.W.nsIn K mainGlobals "is_book" = some (some (.ref f11))) (l11 : K.lookup f11 = some ⟨oc11, od11, .func (PySem.W.fnOf "is_book" "is_book" (defArgs s_is_book) (defBody s_is_book) (defScope s_is_book) .none kV11 dc11 pm11 an11 cd11 ct11), sl11⟩) (c11 : PySem.W.codeIn K cd11 "is_book" = true) (k11 : PySem.W.keepIn K (.ref f11) = true)
    (a12 : PySem.W.nsIn K mainGlobals "_law_feed" = some (some (.ref f12))) (l12 : K.lookup f12 = some ⟨oc12, od12, .func (PySem.W.fnOf "_law_feed" "_law_feed" (defArgs s__law_feed) (defBody s__law_feed) (defScope s__law_feed) .none kV12 dc12 pm12 an12 cd12 ct12), sl12⟩) (c12 : PySem.W.codeIn K cd12 "_law_feed" = true) (k12 : PySem.W.keepIn K (.ref f12) = true)
    (a13 : PySem.W.nsIn K mainGlobals "_law_draw" = some (some (.ref f13))) (l13 : K.lookup f13 = some ⟨oc13, od13, .func (PySem.W.fnOf "_law_draw" "_law_draw" (defArgs s__law_draw) (defBody s__law_draw) (defScope s__law_draw) .none kV13 dc13 pm13 an13 cd13 ct13), sl13⟩) (c13 : PySem.W.codeIn K cd13 "_law_draw" = true) (k13 : PySem.W.keepIn K (.ref f13) = true)
    (a14 : PySem.W.nsIn K mainGlobals "_law_pick" = some (some (.ref f14))) (l14 : K.lookup f14 = some ⟨oc14, od14, .func (PySem.W.fnOf "_law_pick" "_law_pick" (defArgs s__law_pick) (defBody s__law_pick) (defScope s__law_pick) .none kV14 dc14 pm14 an14 cd14 ct14), sl14⟩) (c14 : PySem.W.codeIn K cd14 "_law_pick" = true) (k14 : PySem.W.keepIn K (.ref f14) = true)
    (a15 : PySem.W.nsIn K mainGlobals "_law_names" = some (some (.ref f15))) (l15 : K.lookup f15 = some ⟨oc15, od15, .func (PySem.W.fnOf "_law_names" "_law_names" (defArgs s__law_names) (defBody s__law_names) (defScope s__law_names) .none kV15 dc15 pm15 an15 cd15 ct15), sl15⟩) (c15 : PySem.W.codeIn K cd15 "_law_names" = true) (k15 : PySem.W.keepIn K (.ref f15) = true)
    (a16 : PySem.W.nsIn K mainGlobals "_law_sources" = some (some (.ref f16))) (l16 : K.lookup f16 = some ⟨oc16, od16, .func (PySem.W.fnOf "_law_sources" "_law_sources" (defArgs s__law_sources) (defBody s__law_sources) (defScope s__law_sources) .none kV16 dc16 pm16 an16 cd16 ct16), sl16⟩) (c16 : PySem.W.codeIn K cd16 "_law_sources" = true) (k16 : PySem.W.keepIn K (.ref f16) = true)
    (a17 : PySem.W.nsIn K mainGlobals "_law_weight" = some (some (.ref f17))) (l17 : K.lookup f17 = some ⟨oc17, od17, .func (PySem.W.fnOf "_law_weight" "_law_weight" (defArgs s__law_weight) (defBody s__law_weight) (defScope s__law_weight) .none kV17 dc17 pm17 an17 cd17 ct17), sl17⟩) (c17 : PySem.W.codeIn K cd17 "_law_weight" = true) (k17 : PySem.W.keepIn K (.ref f17) = true)
    (a18 : PySem.W.nsIn K mainGlobals "_law_build" = some (some (.ref f18))) (l18 : K.lookup f18 = some ⟨oc18, od18, .func (PySem.W.fnOf "_law_build" "_law_build" (defArgs s__law_build) (defBody s__law_build) (defScope s__law_build) .none kV18 dc18 pm18 an18 cd18 ct18), sl18⟩) (c18 : PySem.W.codeIn K cd18 "_law_build" = true) (k18 : PySem.W.keepIn K (.ref f18) = true)
    (a19 : PySem.W.nsIn K mainGlobals "_law_book" = some (some (.ref f19))) (l19 : K.lookup f19 = some ⟨oc19, od19, .func (PySem.W.fnOf "_law_book" "_law_book" (defArgs s__law_book) (defBody s__law_book) (defScope s__law_book) .none kV19 dc19 pm19 an19 cd19 ct19), sl19⟩) (c19 : PySem.W.codeIn K cd19 "_law_book" = true) (k19 : PySem.W.keepIn K (.ref f19) = true)
    (a20 : PySem.W.nsIn K mainGlobals "_law_is_number" = some (some (.ref f20))) (l20 : K.lookup f20 = some ⟨oc20, od20, .func (PySem.W.fnOf "_law_is_number" "_law_is_number" (defArgs s__law_is_number) (defBody s__law_is_number) (defScope s__law_is_number) .none kV20 dc20 pm20 an20 cd20 ct20), sl20⟩) (c20 : PySem.W.codeIn K cd20 "_law_is_number" = true) (k20 : PySem.W.keepIn K (.ref f20) = true)
    (a21 : PySem.W.nsIn K mainGlobals "_law_is_name" = some (some (.ref f21))) (l21 : K.lookup f21 = some ⟨oc21, od21, .func (PySem.W.fnOf "_law_is_name" "_law_is_name" (defArgs s__law_is_name) (defBody s__law_is_name) (defScope s__law_is_name) .none kV21 dc21 pm21 an21 cd21 ct21), sl21⟩) (c21 : PySem.W.codeIn K cd21 "_law_is_name" = true) (k21 : PySem.W.keepIn K (.ref f21) = true)
    (a22 : PySem.W.nsIn K mainGlobals "_law_are_names" = some (some (.ref f22))) (l22 : K.lookup f22 = some ⟨oc22, od22, .func (PySem.W.fnOf "_law_are_names" "_law_are_names" (defArgs s__law_are_names) (defBody s__law_are_names) (defScope s__law_are_names) .none kV22 dc22 pm22 an22 cd22 ct22), sl22⟩) (c22 : PySem.W.codeIn K cd22 "_law_are_names" = true) (k22 : PySem.W.keepIn K (.ref f22) = true)
    (a23 : PySem.W.nsIn K mainGlobals "_law_is_set" = some (some (.ref f23))) (l23 : K.lookup f23 = some ⟨oc23, od23, .func (PySem.W.fnOf "_law_is_set" "_law_is_set" (defArgs s__law_is_set) (defBody s__law_is_set) (defScope s__law_is_set) .none kV23 dc23 pm23 an23 cd23 ct23), sl23⟩) (c23 : PySem.W.codeIn K cd23 "_law_is_set" = true) (k23 : PySem.W.keepIn K (.ref f23) = true)
    (a24 : PySem.W.nsIn K mainGlobals "_law_is_source" = some (some (.ref f24))) (l24 : K.lookup f24 = some ⟨oc24, od24, .func (PySem.W.fnOf "_law_is_source" "_law_is_source" (defArgs s__law_is_source) (defBody s__law_is_source) (defScope s__law_is_source) .none kV24 dc24 pm24 an24 cd24 ct24), sl24⟩) (c24 : PySem.W.codeIn K cd24 "_law_is_source" = true) (k24 : PySem.W.keepIn K (.ref f24) = true)
    (a25 : PySem.W.nsIn K mainGlobals "_law_is_party" = some (some (.ref f25))) (l25 : K.lookup f25 = some ⟨oc25, od25, .func (PySem.W.fnOf "_law_is_party" "_law_is_party" (defArgs s__law_is_party) (defBody s__law_is_party) (defScope s__law_is_party) .none kV25 dc25 pm25 an25 cd25 ct25), sl25⟩) (c25 : PySem.W.codeIn K cd25 "_law_is_party" = true) (k25 : PySem.W.keepIn K (.ref f25) = true)
    (a26 : PySem.W.nsIn K mainGlobals "_law_is_build" = some (some (.ref f26))) (l26 : K.lookup f26 = some ⟨oc26, od26, .func (PySem.W.fnOf "_law_is_build" "_law_is_build" (defArgs s__law_is_build) (defBody s__law_is_build) (defScope s__law_is_build) .none kV26 dc26 pm26 an26 cd26 ct26), sl26⟩) (c26 : PySem.W.codeIn K cd26 "_law_is_build" = true) (k26 : PySem.W.keepIn K (.ref f26) = true)
    (a27 : PySem.W.nsIn K mainGlobals "_law_is_pair" = some (some (.ref f27))) (l27 : K.lookup f27 = some ⟨oc27, od27, .func (PySem.W.fnOf "_law_is_pair" "_law_is_pair" (defArgs s__law_is_pair) (defBody s__law_is_pair) (defScope s__law_is_pair) .none kV27 dc27 pm27 an27 cd27 ct27), sl27⟩) (c27 : PySem.W.codeIn K cd27 "_law_is_pair" = true) (k27 : PySem.W.keepIn K (.ref f27) = true)
    (a28 : PySem.W.nsIn K mainGlobals "_law_is_four" = some (some (.ref f28))) (l28 : K.lookup f28 = some ⟨oc28, od28, .func (PySem.W.fnOf "_law_is_four" "_law_is_four" (defArgs s__law_is_four) (defBody s__law_is_four) (defScope s__law_is_four) .none kV28 dc28 pm28 an28 cd28 ct28), sl28⟩) (c28 : PySem.W.codeIn K cd28 "_law_is_four" = true) (k28 : PySem.W.keepIn K (.ref f28) = true)
    (a29 : PySem.W.nsIn K mainGlobals "_law_is_book" = some (some (.ref f29))) (l29 : K.lookup f29 = some ⟨oc29, od29, .func (PySem.W.fnOf "_law_is_book" "_law_is_book" (defArgs s__law_is_book) (defBody s__law_is_book) (defScope s__law_is_book) .none kV29 dc29 pm29 an29 cd29 ct29), sl29⟩) (c29 : PySem.W.codeIn K cd29 "_law_is_book" = true) (k29 : PySem.W.keepIn K (.ref f29) = true)
    (a30 : PySem.W.nsIn K mainGlobals "_law_odd" = some (some (.ref f30))) (l30 : K.lookup f30 = some ⟨oc30, od30, .func (PySem.W.fnOf "_law_odd" "_law_odd" (defArgs s__law_odd) (defBody s__law_odd) (defScope s__law_odd) .none kV30 dc30 pm30 an30 cd30 ct30), sl30⟩) (c30 : PySem.W.codeIn K cd30 "_law_odd" = true) (k30 : PySem.W.keepIn K (.ref f30) = true)
    (a31 : PySem.W.nsIn K mainGlobals "_law_bent" = some (some (.ref f31))) (l31 : K.lookup f31 = some ⟨oc31, od31, .func (PySem.W.fnOf "_law_bent" "_law_bent" (defArgs s__law_bent) (defBody s__law_bent) (defScope s__law_bent) .none kV31 dc31 pm31 an31 cd31 ct31), sl31⟩) (c31 : PySem.W.codeIn K cd31 "_law_bent" = true) (k31 : PySem.W.keepIn K (.ref f31) = true)
    (a32 : PySem.W.nsIn K mainGlobals "_law_fixed" = some (some (.ref f32))) (l32 : K.lookup f32 = some ⟨oc32, od32, .func (PySem.W.fnOf "_law_fixed" "_law_fixed" (defArgs s__law_fixed) (defBody s__law_fixed) (defScope s__law_fixed) .none kV32 dc32 pm32 an32 cd32 ct32), sl32⟩) (c32 : PySem.W.codeIn K cd32 "_law_fixed" = true) (k32 : PySem.W.keepIn K (.ref f32) = true)
    (a33 : PySem.W.nsIn K mainGlobals "_law_fixed_books" = some (some (.ref f33))) (l33 : K.lookup f33 = some ⟨oc33, od33, .func (PySem.W.fnOf "_law_fixed_books" "_law_fixed_books" (defArgs s__law_fixed_books) (defBody s__law_fixed_books) (defScope s__law_fixed_books) .none kV33 dc33 pm33 an33 cd33 ct33), sl33⟩) (c33 : PySem.W.codeIn K cd33 "_law_fixed_books" = true) (k33 : PySem.W.keepIn K (.ref f33) = true)
    (a34 : PySem.W.nsIn K mainGlobals "_law_right" = some (some (.ref f34))) (l34 : K.lookup f34 = some ⟨oc34, od34, .func (PySem.W.fnOf "_law_right" "_law_right" (defArgs s__law_right) (defBody s__law_right) (defScope s__law_right) .none kV34 dc34 pm34 an34 cd34 ct34), sl34⟩) (c34 : PySem.W.codeIn K cd34 "_law_right" = true) (k34 : PySem.W.keepIn K (.ref f34) = true)
    (a35 : PySem.W.nsIn K mainGlobals "law" = some (some (.ref f35))) (l35 : K.lookup f35 = some ⟨oc35, od35, .func (PySem.W.fnOf "law" "law" (defArgs s_law) (defBody s_law) (defScope s_law) .none kV35 dc35 pm35 an35 cd35 ct35), sl35⟩) (c35 : PySem.W.codeIn K cd35 "law" = true) (k35 : PySem.W.keepIn K (.ref f35) = true)
    (z_all : PySem.W.nsIn K mainGlobals "all" = some none)
    (z_bool : PySem.W.nsIn K mainGlobals "bool" = some none)
    (z_enumerate : PySem.W.nsIn K mainGlobals "enumerate" = some none)
    (z_int : PySem.W.nsIn K mainGlobals "int" = some none)
    (z_isinstance : PySem.W.nsIn K mainGlobals "isinstance" = some none)
    (z_len : PySem.W.nsIn K mainGlobals "len" = some none)
    (z_list : PySem.W.nsIn K mainGlobals "list" = some none)
    (z_range : PySem.W.nsIn K mainGlobals "range" = some none)
    (z_set : PySem.W.nsIn K mainGlobals "set" = some none)
    (z_sorted : PySem.W.nsIn K mainGlobals "sorted" = some none)
    (z_str : PySem.W.nsIn K mainGlobals "str" = some none)
    (z_tuple : PySem.W.nsIn K mainGlobals "tuple" = some none)
    (q_FIRST_SIGNS : PySem.W.nsIn K mainGlobals "FIRST_SIGNS" = some (some (.str ("abcdefghijklmnopqrstuvwxyz" : Str) t_FIRST_SIGNS)))
    (q_SIGNS : PySem.W.nsIn K mainGlobals "SIGNS" = some (some (.str ("abcdefghijklmnopqrstuvwxyz0123456789" : Str) t_SIGNS)))
    (q_LONGEST_NAME : PySem.W.nsIn K mainGlobals "LONGEST_NAME" = some (some (.int 8 t_LONGEST_NAME)))
    : ∃ fd : FuncData, (∀ (s : Shared) (v : Value), BindsTo s fd ⟨[v], []⟩ [("_law_script", v)]) ∧ ∀ base : Heap, K.In base → base.Ns mainGlobals mg → FnOk l.prog w K mg base CX0 17 fa fd ["_law_script"] (spF K f_law 1) := by
  have e := hfa.symm.trans (PySem.W.mg_of X G a35)
  cases e
  have T : Txt K mg := ⟨PySem.W.mg_none_of X G z_all, PySem.W.mg_none_of X G z_bool, PySem.W.mg_none_of X G z_enumerate, PySem.W.mg_none_of X G z_int, PySem.W.mg_none_of X G z_isinstance, PySem.W.mg_none_of X G z_len, PySem.W.mg_none_of X G z_list, PySem.W.mg_none_of X G z_range, PySem.W.mg_none_of X G z_set, PySem.W.mg_none_of X G z_sorted, PySem.W.mg_none_of X G z_str, PySem.W.mg_none_of X G z_tuple, ⟨_, PySem.W.mg_of X G q_FIRST_SIGNS⟩, ⟨_, PySem.W.mg_of X G q_SIGNS⟩, ⟨_, PySem.W.mg_of X G q_LONGEST_NAME⟩⟩
  have H0 : Here K mg "is_integer" "is_integer" s_is_integer ["thing"] := ⟨f0, _, fun_mk (st := s_is_integer) l0 c0 k0, PySem.W.mg_of X G a0, (fun_mk (st := s_is_integer) l0 c0 k0).binds (ps := ["thing"]) fun _ _ _ _ _ _ us hl => match us, hl with | [_], _ => rfl⟩
  have H1 : Here K mg "is_number" "is_number" s_is_number ["thing"] := ⟨f1, _, fun_mk (st := s_is_number) l1 c1 k1, PySem.W.mg_of X G a1, (fun_mk (st := s_is_number) l1 c1 k1).binds (ps := ["thing"]) fun _ _ _ _ _ _ us hl => match us, hl with | [_], _ => rfl⟩
  have H2 : Here K mg "is_name" "is_name" s_is_name ["thing"] := ⟨f2, _, fun_mk (st := s_is_name) l2 c2 k2, PySem.W.mg_of X G a2, (fun_mk (st := s_is_name) l2 c2 k2).binds (ps := ["thing"]) fun _ _ _ _ _ _ us hl => match us, hl with | [_], _ => rfl⟩
  have H3 : Here K mg "is_names" "is_names" s_is_names ["thing"] := ⟨f3, _, fun_mk (st := s_is_names) l3 c3 k3, PySem.W.mg_of X G a3, (fun_mk (st := s_is_names) l3 c3 k3).binds (ps := ["thing"]) fun _ _ _ _ _ _ us hl => match us, hl with | [_], _ => rfl⟩
  have H4 : Here K mg "is_rising" "is_rising" s_is_rising ["rows"] := ⟨f4, _, fun_mk (st := s_is_rising) l4 c4 k4, PySem.W.mg_of X G a4, (fun_mk (st := s_is_rising) l4 c4 k4).binds (ps := ["rows"]) fun _ _ _ _ _ _ us hl => match us, hl with | [_], _ => rfl⟩
  have H5 : Here K mg "is_set" "is_set" s_is_set ["thing"] := ⟨f5, _, fun_mk (st := s_is_set) l5 c5 k5, PySem.W.mg_of X G a5, (fun_mk (st := s_is_set) l5 c5 k5).binds (ps := ["thing"]) fun _ _ _ _ _ _ us hl => match us, hl with | [_], _ => rfl⟩
  have H6 : Here K mg "is_row" "is_row" s_is_row ["thing", "many"] := ⟨f6, _, fun_mk (st := s_is_row) l6 c6 k6, PySem.W.mg_of X G a6, (fun_mk (st := s_is_row) l6 c6 k6).binds (ps := ["thing", "many"]) fun _ _ _ _ _ _ us hl => match us, hl with | [_, _], _ => rfl⟩
  have H7 : Here K mg "is_source" "is_source" s_is_source ["thing"] := ⟨f7, _, fun_mk (st := s_is_source) l7 c7 k7, PySem.W.mg_of X G a7, (fun_mk (st := s_is_source) l7 c7 k7).binds (ps := ["thing"]) fun _ _ _ _ _ _ us hl => match us, hl with | [_], _ => rfl⟩
  have H8 : Here K mg "is_party" "is_party" s_is_party ["thing"] := ⟨f8, _, fun_mk (st := s_is_party) l8 c8 k8, PySem.W.mg_of X G a8, (fun_mk (st := s_is_party) l8 c8 k8).binds (ps := ["thing"]) fun _ _ _ _ _ _ us hl => match us, hl with | [_], _ => rfl⟩
  have H9 : Here K mg "is_build" "is_build" s_is_build ["thing"] := ⟨f9, _, fun_mk (st := s_is_build) l9 c9 k9, PySem.W.mg_of X G a9, (fun_mk (st := s_is_build) l9 c9 k9).binds (ps := ["thing"]) fun _ _ _ _ _ _ us hl => match us, hl with | [_], _ => rfl⟩
  have H10 : Here K mg "is_fact" "is_fact" s_is_fact ["thing"] := ⟨f10, _, fun_mk (st := s_is_fact) l10 c10 k10, PySem.W.mg_of X G a10, (fun_mk (st := s_is_fact) l10 c10 k10).binds (ps := ["thing"]) fun _ _ _ _ _ _ us hl => match us, hl with | [_], _ => rfl⟩
  have H11 : Here K mg "is_book" "is_book" s_is_book ["thing"] := ⟨f11, _, fun_mk (st := s_is_book) l11 c11 k11, PySem.W.mg_of X G a11, (fun_mk (st := s_is_book) l11 c11 k11).binds (ps := ["thing"]) fun _ _ _ _ _ _ us hl => match us, hl with | [_], _ => rfl⟩
  have H12 : Here K mg "_law_feed" "_law_feed" s__law_feed ["_law_script"] := ⟨f12, _, fun_mk (st := s__law_feed) l12 c12 k12, PySem.W.mg_of X G a12, (fun_mk (st := s__law_feed) l12 c12 k12).binds (ps := ["_law_script"]) fun _ _ _ _ _ _ us hl => match us, hl with | [_], _ => rfl⟩
  have H13 : Here K mg "_law_draw" "_law_draw" s__law_draw ["_law_feed_here", "_law_many"] := ⟨f13, _, fun_mk (st := s__law_draw) l13 c13 k13, PySem.W.mg_of X G a13, (fun_mk (st := s__law_draw) l13 c13 k13).binds (ps := ["_law_feed_here", "_law_many"]) fun _ _ _ _ _ _ us hl => match us, hl with | [_, _], _ => rfl⟩
  have H14 : Here K mg "_law_pick" "_law_pick" s__law_pick ["_law_feed_here", "_law_things"] := ⟨f14, _, fun_mk (st := s__law_pick) l14 c14 k14, PySem.W.mg_of X G a14, (fun_mk (st := s__law_pick) l14 c14 k14).binds (ps := ["_law_feed_here", "_law_things"]) fun _ _ _ _ _ _ us hl => match us, hl with | [_, _], _ => rfl⟩
  have H15 : Here K mg "_law_names" "_law_names" s__law_names ["_law_feed_here", "_law_many"] := ⟨f15, _, fun_mk (st := s__law_names) l15 c15 k15, PySem.W.mg_of X G a15, (fun_mk (st := s__law_names) l15 c15 k15).binds (ps := ["_law_feed_here", "_law_many"]) fun _ _ _ _ _ _ us hl => match us, hl with | [_, _], _ => rfl⟩
  have H16 : Here K mg "_law_sources" "_law_sources" s__law_sources ["_law_feed_here", "_law_names_here", "_law_tongues"] := ⟨f16, _, fun_mk (st := s__law_sources) l16 c16 k16, PySem.W.mg_of X G a16, (fun_mk (st := s__law_sources) l16 c16 k16).binds (ps := ["_law_feed_here", "_law_names_here", "_law_tongues"]) fun _ _ _ _ _ _ us hl => match us, hl with | [_, _, _], _ => rfl⟩
  have H17 : Here K mg "_law_weight" "_law_weight" s__law_weight ["_law_feed_here"] := ⟨f17, _, fun_mk (st := s__law_weight) l17 c17 k17, PySem.W.mg_of X G a17, (fun_mk (st := s__law_weight) l17 c17 k17).binds (ps := ["_law_feed_here"]) fun _ _ _ _ _ _ us hl => match us, hl with | [_], _ => rfl⟩
  have H18 : Here K mg "_law_build" "_law_build" s__law_build ["_law_feed_here", "_law_whole", "_law_blobs"] := ⟨f18, _, fun_mk (st := s__law_build) l18 c18 k18, PySem.W.mg_of X G a18, (fun_mk (st := s__law_build) l18 c18 k18).binds (ps := ["_law_feed_here", "_law_whole", "_law_blobs"]) fun _ _ _ _ _ _ us hl => match us, hl with | [_, _, _], _ => rfl⟩
  have H19 : Here K mg "_law_book" "_law_book" s__law_book ["_law_feed_here"] := ⟨f19, _, fun_mk (st := s__law_book) l19 c19 k19, PySem.W.mg_of X G a19, (fun_mk (st := s__law_book) l19 c19 k19).binds (ps := ["_law_feed_here"]) fun _ _ _ _ _ _ us hl => match us, hl with | [_], _ => rfl⟩
  have H20 : Here K mg "_law_is_number" "_law_is_number" s__law_is_number ["_law_thing"] := ⟨f20, _, fun_mk (st := s__law_is_number) l20 c20 k20, PySem.W.mg_of X G a20, (fun_mk (st := s__law_is_number) l20 c20 k20).binds (ps := ["_law_thing"]) fun _ _ _ _ _ _ us hl => match us, hl with | [_], _ => rfl⟩
  have H21 : Here K mg "_law_is_name" "_law_is_name" s__law_is_name ["_law_thing"] := ⟨f21, _, fun_mk (st := s__law_is_name) l21 c21 k21, PySem.W.mg_of X G a21, (fun_mk (st := s__law_is_name) l21 c21 k21).binds (ps := ["_law_thing"]) fun _ _ _ _ _ _ us hl => match us, hl with | [_], _ => rfl⟩
  have H22 : Here K mg "_law_are_names" "_law_are_names" s__law_are_names ["_law_thing"] := ⟨f22, _, fun_mk (st := s__law_are_names) l22 c22 k22, PySem.W.mg_of X G a22, (fun_mk (st := s__law_are_names) l22 c22 k22).binds (ps := ["_law_thing"]) fun _ _ _ _ _ _ us hl => match us, hl with | [_], _ => rfl⟩
  have H23 : Here K mg "_law_is_set" "_law_is_set" s__law_is_set ["_law_thing"] := ⟨f23, _, fun_mk (st := s__law_is_set) l23 c23 k23, PySem.W.mg_of X G a23, (fun_mk (st := s__law_is_set) l23 c23 k23).binds (ps := ["_law_thing"]) fun _ _ _ _ _ _ us hl => match us, hl with | [_], _ => rfl⟩
  have H24 : Here K mg "_law_is_source" "_law_is_source" s__law_is_source ["_law_thing"] := ⟨f24, _, fun_mk (st := s__law_is_source) l24 c24 k24, PySem.W.mg_of X G a24, (fun_mk (st := s__law_is_source) l24 c24 k24).binds (ps := ["_law_thing"]) fun _ _ _ _ _ _ us hl => match us, hl with | [_], _ => rfl⟩
  have H25 : Here K mg "_law_is_party" "_law_is_party" s__law_is_party ["_law_thing"] := ⟨f25, _, fun_mk (st := s__law_is_party) l25 c25 k25, PySem.W.mg_of X G a25, (fun_mk (st := s__law_is_party) l25 c25 k25).binds (ps := ["_law_thing"]) fun _ _ _ _ _ _ us hl => match us, hl with | [_], _ => rfl⟩
  have H26 : Here K mg "_law_is_build" "_law_is_build" s__law_is_build ["_law_thing"] := ⟨f26, _, fun_mk (st := s__law_is_build) l26 c26 k26, PySem.W.mg_of X G a26, (fun_mk (st := s__law_is_build) l26 c26 k26).binds (ps := ["_law_thing"]) fun _ _ _ _ _ _ us hl => match us, hl with | [_], _ => rfl⟩
  have H27 : Here K mg "_law_is_pair" "_law_is_pair" s__law_is_pair ["_law_thing"] := ⟨f27, _, fun_mk (st := s__law_is_pair) l27 c27 k27, PySem.W.mg_of X G a27, (fun_mk (st := s__law_is_pair) l27 c27 k27).binds (ps := ["_law_thing"]) fun _ _ _ _ _ _ us hl => match us, hl with | [_], _ => rfl⟩
  have H28 : Here K mg "_law_is_four" "_law_is_four" s__law_is_four ["_law_thing"] := ⟨f28, _, fun_mk (st := s__law_is_four) l28 c28 k28, PySem.W.mg_of X G a28, (fun_mk (st := s__law_is_four) l28 c28 k28).binds (ps := ["_law_thing"]) fun _ _ _ _ _ _ us hl => match us, hl with | [_], _ => rfl⟩
  have H29 : Here K mg "_law_is_book" "_law_is_book" s__law_is_book ["_law_thing"] := ⟨f29, _, fun_mk (st := s__law_is_book) l29 c29 k29, PySem.W.mg_of X G a29, (fun_mk (st := s__law_is_book) l29 c29 k29).binds (ps := ["_law_thing"]) fun _ _ _ _ _ _ us hl => match us, hl with | [_], _ => rfl⟩
  have H30 : Here K mg "_law_odd" "_law_odd" s__law_odd ["_law_feed_here"] := ⟨f30, _, fun_mk (st := s__law_odd) l30 c30 k30, PySem.W.mg_of X G a30, (fun_mk (st := s__law_odd) l30 c30 k30).binds (ps := ["_law_feed_here"]) fun _ _ _ _ _ _ us hl => match us, hl with | [_], _ => rfl⟩
  have H31 : Here K mg "_law_bent" "_law_bent" s__law_bent ["_law_feed_here", "_law_thing"] := ⟨f31, _, fun_mk (st := s__law_bent) l31 c31 k31, PySem.W.mg_of X G a31, (fun_mk (st := s__law_bent) l31 c31 k31).binds (ps := ["_law_feed_here", "_law_thing"]) fun _ _ _ _ _ _ us hl => match us, hl with | [_, _], _ => rfl⟩
  have H32 : Here K mg "_law_fixed" "_law_fixed" s__law_fixed [] := ⟨f32, _, fun_mk (st := s__law_fixed) l32 c32 k32, PySem.W.mg_of X G a32, (fun_mk (st := s__law_fixed) l32 c32 k32).binds (ps := []) fun _ _ _ _ _ _ us hl => match us, hl with | [], _ => rfl⟩
  have H33 : Here K mg "_law_fixed_books" "_law_fixed_books" s__law_fixed_books [] := ⟨f33, _, fun_mk (st := s__law_fixed_books) l33 c33 k33, PySem.W.mg_of X G a33, (fun_mk (st := s__law_fixed_books) l33 c33 k33).binds (ps := []) fun _ _ _ _ _ _ us hl => match us, hl with | [], _ => rfl⟩
  have H34 : Here K mg "_law_right" "_law_right" s__law_right ["_law_thing"] := ⟨f34, _, fun_mk (st := s__law_right) l34 c34 k34, PySem.W.mg_of X G a34, (fun_mk (st := s__law_right) l34 c34 k34).binds (ps := ["_law_thing"]) fun _ _ _ _ _ _ us hl => match us, hl with | [_], _ => rfl⟩
  refine ⟨PySem.W.fnOf "law" "law" (defArgs s_law) (defBody s_law) (defScope s_law) .none kV35 dc35 pm35 an35 cd35 ct35, fun s v => .of_eq rfl, fun base _ _ => ?_⟩
  have D_is_integer := ok_is_integer (P := l.prog) (w := w) (base := base) H0 T
  have D_is_name := ok_is_name (P := l.prog) (w := w) (base := base) H2 T
  have D_is_rising := ok_is_rising (P := l.prog) (w := w) (base := base) H4 T
  have D_is_row := ok_is_row (P := l.prog) (w := w) (base := base) H6 T
  have D__law_feed := ok__law_feed (P := l.prog) (w := w) (base := base) H12 T
  have D__law_draw := ok__law_draw (P := l.prog) (w := w) (base := base) H13 T
  have D__law_is_number := ok__law_is_number (P := l.prog) (w := w) (base := base) H20 T
  have D__law_is_name := ok__law_is_name (P := l.prog) (w := w) (base := base) H21 T
  have D__law_is_four := ok__law_is_four (P := l.prog) (w := w) (base := base) H28 T
  have D__law_fixed := ok__law_fixed (P := l.prog) (w := w) (base := base) H32 T
  have D__law_fixed_books := ok__law_fixed_books (P := l.prog) (w := w) (base := base) H33 T
  have D_is_number := ok_is_number (P := l.prog) (w := w) (base := base) H1 T D_is_integer
  have D_is_names := ok_is_names (P := l.prog) (w := w) (base := base) H3 T D_is_name
  have D_is_party := ok_is_party (P := l.prog) (w := w) (base := base) H8 T D_is_row D_is_name D_is_integer
  have D_is_fact := ok_is_fact (P := l.prog) (w := w) (base := base) H10 T D_is_row D_is_name
  have D__law_pick := ok__law_pick (P := l.prog) (w := w) (base := base) H14 T D__law_draw
  have D__law_weight := ok__law_weight (P := l.prog) (w := w) (base := base) H17 T D__law_draw
  have D__law_are_names := ok__law_are_names (P := l.prog) (w := w) (base := base) H22 T D__law_is_name
  have D__law_is_party := ok__law_is_party (P := l.prog) (w := w) (base := base) H25 T D__law_is_name D__law_is_number
  have D_is_set := ok_is_set (P := l.prog) (w := w) (base := base) H5 T D_is_names D_is_rising
  have D_is_build := ok_is_build (P := l.prog) (w := w) (base := base) H9 T D_is_row D_is_name D_is_names
  have D__law_names := ok__law_names (P := l.prog) (w := w) (base := base) H15 T D__law_draw D__law_pick
  have D__law_sources := ok__law_sources (P := l.prog) (w := w) (base := base) H16 T D__law_draw D__law_pick
  have D__law_build := ok__law_build (P := l.prog) (w := w) (base := base) H18 T D__law_pick D__law_draw
  have D__law_is_set := ok__law_is_set (P := l.prog) (w := w) (base := base) H23 T D__law_are_names
  have D__law_is_build := ok__law_is_build (P := l.prog) (w := w) (base := base) H26 T D__law_are_names D__law_is_name
  have D__law_is_pair := ok__law_is_pair (P := l.prog) (w := w) (base := base) H27 T D__law_are_names
  have D__law_odd := ok__law_odd (P := l.prog) (w := w) (base := base) H30 T D__law_pick
  have D_is_source := ok_is_source (P := l.prog) (w := w) (base := base) H7 T D_is_row D_is_name D_is_set
  have D__law_book := ok__law_book (P := l.prog) (w := w) (base := base) H19 T D__law_names D__law_draw D__law_sources D__law_weight D__law_build
  have D__law_is_source := ok__law_is_source (P := l.prog) (w := w) (base := base) H24 T D__law_are_names D__law_is_set
  have D_is_book := ok_is_book (P := l.prog) (w := w) (base := base) H11 T D_is_row D_is_source D_is_party D_is_fact D_is_build
  have D__law_is_book := ok__law_is_book (P := l.prog) (w := w) (base := base) H29 T D__law_is_four D__law_is_source D__law_is_party D__law_is_pair D__law_is_build
  have D__law_right := ok__law_right (P := l.prog) (w := w) (base := base) H34 T D__law_is_number D_is_number D_is_integer D__law_is_set D_is_set D__law_is_name D_is_name D__law_is_party D_is_party D__law_is_source D_is_source D__law_is_pair D_is_fact D__law_is_build D_is_build D__law_is_book D_is_book
  have D__law_bent := ok__law_bent (P := l.prog) (w := w) (base := base) H31 T D__law_draw D__law_pick D__law_odd 12
  exact fn_law (fun_mk (st := s_law) l35 c35 k35) T D__law_feed D__law_book D__law_pick D__law_bent D__law_odd D__law_fixed D__law_fixed_books D__law_right
theorem walk {l : PySem.W.OpenLaw} {q : Program} {loose : List Str} {XP : (Str → Option Value) → Heap → Prop} {YP : World → Heap → Prop} {d : DefRec} {K : Params → PySem.W.Frag} (true_ : ∀ ns : List Int, ns.length ≤ 63 → ∃ S', f_law [.frz (ns.map D.int)] [] = some (.bl true, S')) (hn : l.most = some 63) (hdf : d.params.defaults = [])
    (hY : ∀ (w : World) (h : Heap), YP w h → (K w.params).In h)
    (F : ∀ (w : World) (mg : Str → Option Value) (fa : Addr) (h : Heap), (K w.params).In h → h.Ns mainGlobals mg → mg d.name = some (.ref fa) →
      ∃ fd : FuncData, (∀ (s : Shared) (u : Value), BindsTo s fd ⟨[u], []⟩ [("_law_script", u)]) ∧ ∀ base : Heap, (K w.params).In base → base.Ns mainGlobals mg → FnOk l.prog w (K w.params) mg base CX0 17 fa fd ["_law_script"] (spF (K w.params) f_law 1)) :
    PySem.W.WalkO q loose XP YP l.row.toRowW d [] (fun f vs => PySem.call f vs) :=
  L2.walk_of (n := 63) (k := 17) (x := "_law_script") (CX := fun _ => CX0) (sp := fun w => spF (K w.params) f_law 1) hn (by decide) hdf ⟨rfl, by decide, by decide⟩ hY F (fun _ H a ns hl hO hS => law_sp hl hO hS (true_ ns hl)) fun _ _ _ _ _ z => z
end K1

set_option maxHeartbeats 4000000
namespace K1
open PySem PySem.Spec PyProof.Rows L2 J
def inT (x y : Str) : Bool := !(Builtin.Str.occurrences y x 0 y.length 1).isEmpty
def sgn (c : Nat) : Str := ⟨#[c]⟩
abbrev FS : Str := "abcdefghijklmnopqrstuvwxyz"
abbrev SG : Str := "abcdefghijklmnopqrstuvwxyz0123456789"
def isName : D → Bool
  | .str z => (decide (1 ≤ (z.length : Int)) && decide ((z.length : Int) ≤ 8)) && ((match z.cps.toList with | [] => false | c :: _ => inT (sgn c) FS) && z.cps.toList.all fun c => inT (sgn c) SG)
  | _ => false
theorem len_cps (z : Str) : z.length = z.cps.toList.length := by simp [Str.length]
theorem atI_nat {α : Type} {xs : List α} {k : Nat} : atI xs (k : Int) = xs[k]? := by
  unfold atI ixN
  rw [if_pos (Int.natCast_nonneg k)]
  by_cases h : k < xs.length
  · rw [if_pos (by omega)]; rfl
  · rw [if_neg (by omega), List.getElem?_eq_none (by omega)]; rfl
theorem gLe_i (i j : Int) : gLe (.int i) (.int j) = some (.bl (decide (i ≤ j))) := rfl
theorem gGe_i (i j : Int) : gGe (.int i) (.int j) = some (.bl (decide (j ≤ i))) := rfl
theorem gGt_i (i j : Int) : gGt (.int i) (.int j) = some (.bl (decide (j < i))) := rfl
theorem gLt_i (i j : Int) : gLt (.int i) (.int j) = some (.bl (decide (i < j))) := rfl
theorem gAdd_i (i j : Int) : gAdd (.int i) (.int j) = some (.int (i + j)) := rfl
theorem gIn_s (i j : Str) : gIn false (.str i) (.str j) = some (.bl (inT i j)) := rfl
theorem gIn_sn (i j : Str) : gIn true (.str i) (.str j) = some (.bl (!inT i j)) := rfl
theorem gIx_0 {z : Str} {c : Nat} {r : List Nat} (h : z.cps.toList = c :: r) (hz : z.length ≤ 3000) : gIx (.str z) (.int 0) = some (.str (sgn c)) := by
  show (if z.length ≤ sizeLine then (atI z.cps.toList 0).map fun c => D.str ⟨#[c]⟩ else none) = _
  rw [if_pos (by rw [sizeLine_eq]; omega), h, show (0 : Int) = ((0 : Nat) : Int) from rfl, atI_nat]
  rfl
theorem isT_tt (xs : List D) : isT .tuple (.tup xs) = true := rfl
theorem isT_ss (z : Str) : isT .str (.str z) = true := rfl
theorem v_integer (d : D) (S : Store) : f_is_integer [d] S = some (.bl (isT .int d && !isT .bool d), S) := by
  cases d <;> rfl
theorem v_name (d : D) (g : good d = true) (S : Store) : f_is_name [d] S = some (.bl (isName d), S) := by
  cases d with
  | str z =>
    rw [good, Bool.and_eq_true, decide_eq_true_eq] at g
    have hz : z.length ≤ sizeLine := by rw [sizeLine_eq]; omega
    have C : lComp [1] (iOf (eP 0)) (bName 1) cYes (e2 (gIn false) (eP 1) (eC (.str SG))) [.d (.str z), .un] S = some ((J.signs z).map fun x => .bl (match x with | .str y => inT y SG | _ => false), S) :=
      lComp_map (fun x => .bl (match x with | .str y => inT y SG | _ => false)) rfl (by unfold J.signs; rw [List.length_map, ← len_cps]; omega) fun x m => by
        unfold J.signs at m
        obtain ⟨c, _, rfl⟩ := List.mem_map.mp m
        exact ⟨_, rfl, rfl, rfl⟩
    have A : (J.signs z).all (fun x => match x with | .str y => inT y SG | _ => false) = z.cps.toList.all fun c => inT (sgn c) SG := by
      unfold J.signs; rw [List.all_map]; rfl
    unfold f_is_name g_is_name isName
    by_cases h1 : (1 : Int) ≤ (z.length : Int)
    · by_cases h2 : (z.length : Int) ≤ 8
      · obtain ⟨c, r, e⟩ : ∃ c r, z.cps.toList = c :: r := by
          cases q : z.cps.toList with
          | nil => rw [len_cps, q] at h1; simp at h1
          | cons c r => exact ⟨c, r, rfl⟩
        simp only [runDef, sSeq, sNil, sRet, sIf, sSet, sSetL, sExt, sApp, sPar, sFreeze, sDrop, eC, eV, eP, e1, e2, l2, eL, aN, aC, aG, aGL, tOf, tAndJ, tOrJ, tNotJ, eAnd, eOr, eNot, eIf, eCh, tTru, gTru, eTup, lDisp, iOf, J.items?, iRg1, iRg2, cYes, bName, bTup, bCons, bNil, mN, mD, mO, setsS, eCall, gIsi, gIsi2, isT_tt, gLen, gI0, gLe_i, gGe_i, gGt_i, gLt_i, gAdd_i,  gListL, gTuple, eSl, oN, oS, List.map_cons, List.map_nil, List.map, List.replicate, List.length_cons, List.length_nil, List.nil_append, List.cons_append, List.append_nil, List.set_cons_zero, List.set_cons_succ, List.set, List.length, List.getElem?_cons_zero, List.getElem?_cons_succ, Nat.sub, Nat.reduceSub, Nat.reduceAdd, Nat.reduceLT, Nat.reduceLeDiff, List.getElem?_nil, Bool.false_eq_true, if_true, if_false, Bool.true_and, Bool.false_and, Bool.and_true, Bool.and_false, Bool.not_true, Bool.not_false, wipeE, isT_ss, if_pos hz, decide_eq_true h1, decide_eq_true h2, gIx_0 e g.2, gIn_s, C, gAll_map, A]
        rw [e]
        simp only
        cases inT (sgn c) FS <;> simp only [runDef, sSeq, sNil, sRet, sIf, sSet, sSetL, sExt, sApp, sPar, sFreeze, sDrop, eC, eV, eP, e1, e2, l2, eL, aN, aC, aG, aGL, tOf, tAndJ, tOrJ, tNotJ, eAnd, eOr, eNot, eIf, eCh, tTru, gTru, eTup, lDisp, iOf, J.items?, iRg1, iRg2, cYes, bName, bTup, bCons, bNil, mN, mD, mO, setsS, eCall, gIsi, gIsi2, isT_tt, gLen, gI0, gLe_i, gGe_i, gGt_i, gLt_i, gAdd_i,  gListL, gTuple, eSl, oN, oS, List.map_cons, List.map_nil, List.map, List.replicate, List.length_cons, List.length_nil, List.nil_append, List.cons_append, List.append_nil, List.set_cons_zero, List.set_cons_succ, List.set, List.length, List.getElem?_cons_zero, List.getElem?_cons_succ, Nat.sub, Nat.reduceSub, Nat.reduceAdd, Nat.reduceLT, Nat.reduceLeDiff, List.getElem?_nil, Bool.false_eq_true, if_true, if_false, Bool.true_and, Bool.false_and, Bool.and_true, Bool.and_false, Bool.not_true, Bool.not_false, wipeE, isT_ss, C, gAll_map, A, e]
      · simp only [runDef, sSeq, sNil, sRet, sIf, sSet, sSetL, sExt, sApp, sPar, sFreeze, sDrop, eC, eV, eP, e1, e2, l2, eL, aN, aC, aG, aGL, tOf, tAndJ, tOrJ, tNotJ, eAnd, eOr, eNot, eIf, eCh, tTru, gTru, eTup, lDisp, iOf, J.items?, iRg1, iRg2, cYes, bName, bTup, bCons, bNil, mN, mD, mO, setsS, eCall, gIsi, gIsi2, isT_tt, gLen, gI0, gLe_i, gGe_i, gGt_i, gLt_i, gAdd_i,  gListL, gTuple, eSl, oN, oS, List.map_cons, List.map_nil, List.map, List.replicate, List.length_cons, List.length_nil, List.nil_append, List.cons_append, List.append_nil, List.set_cons_zero, List.set_cons_succ, List.set, List.length, List.getElem?_cons_zero, List.getElem?_cons_succ, Nat.sub, Nat.reduceSub, Nat.reduceAdd, Nat.reduceLT, Nat.reduceLeDiff, List.getElem?_nil, Bool.false_eq_true, if_true, if_false, Bool.true_and, Bool.false_and, Bool.and_true, Bool.and_false, Bool.not_true, Bool.not_false, wipeE, isT_ss, if_pos hz, decide_eq_true h1, decide_eq_false h2]
    · simp only [runDef, sSeq, sNil, sRet, sIf, sSet, sSetL, sExt, sApp, sPar, sFreeze, sDrop, eC, eV, eP, e1, e2, l2, eL, aN, aC, aG, aGL, tOf, tAndJ, tOrJ, tNotJ, eAnd, eOr, eNot, eIf, eCh, tTru, gTru, eTup, lDisp, iOf, J.items?, iRg1, iRg2, cYes, bName, bTup, bCons, bNil, mN, mD, mO, setsS, eCall, gIsi, gIsi2, isT_tt, gLen, gI0, gLe_i, gGe_i, gGt_i, gLt_i, gAdd_i,  gListL, gTuple, eSl, oN, oS, List.map_cons, List.map_nil, List.map, List.replicate, List.length_cons, List.length_nil, List.nil_append, List.cons_append, List.append_nil, List.set_cons_zero, List.set_cons_succ, List.set, List.length, List.getElem?_cons_zero, List.getElem?_cons_succ, Nat.sub, Nat.reduceSub, Nat.reduceAdd, Nat.reduceLT, Nat.reduceLeDiff, List.getElem?_nil, Bool.false_eq_true, if_true, if_false, Bool.true_and, Bool.false_and, Bool.and_true, Bool.and_false, Bool.not_true, Bool.not_false, wipeE, isT_ss, if_pos hz, decide_eq_false h1]
  | _ => rfl
end K1

set_option maxHeartbeats 4000000
namespace K1
open PySem PySem.Spec PyProof.Rows L2 J
theorem good_tup {xs : List D} (g : good (.tup xs) = true) : xs.length ≤ 20000 ∧ ∀ x ∈ xs, good x = true := by
  rw [good, Bool.and_eq_true, decide_eq_true_eq, goods_all] at g; exact g
def isNames : D → Bool | .tup xs => xs.all isName | _ => false
theorem v_names (d : D) (g : good d = true) (S : Store) : f_is_names [d] S = some (.bl (isNames d), S) := by
  cases d with
  | tup xs =>
    have gg := good_tup g
    have C : lComp [1] (iOf (eP 0)) (bName 1) cYes (eCall f_is_name (aC (eV 1) aN)) [.d (.tup xs), .un] S = some (xs.map fun x => .bl (isName x), S) :=
      lComp_map _ rfl (by omega) fun x m => ⟨_, rfl, rfl, v_name x (gg.2 x m) S⟩
    unfold f_is_names g_is_names isNames
    simp only [runDef, sSeq, sNil, sRet, sIf, sSet, sSetL, sExt, sApp, sPar, sFreeze, sDrop, eC, eV, eP, e1, e2, l2, eL, aN, aC, aG, aGL, tOf, tAndJ, tOrJ, tNotJ, eAnd, eOr, eNot, eIf, eCh, tTru, gTru, eTup, lDisp, iOf, J.items?, iRg1, iRg2, cYes, bName, bTup, bCons, bNil, mN, mD, mO, setsS, eCall, gIsi, gIsi2, isT_tt, gLen, gI0, gLe_i, gGe_i, gGt_i, gLt_i, gAdd_i,  gListL, gTuple, eSl, oN, oS, List.map_cons, List.map_nil, List.map, List.replicate, List.length_cons, List.length_nil, List.nil_append, List.cons_append, List.append_nil, List.set_cons_zero, List.set_cons_succ, List.set, List.length, List.getElem?_cons_zero, List.getElem?_cons_succ, Nat.sub, Nat.reduceSub, Nat.reduceAdd, Nat.reduceLT, Nat.reduceLeDiff, List.getElem?_nil, Bool.false_eq_true, if_true, if_false, Bool.true_and, Bool.false_and, Bool.and_true, Bool.and_false, Bool.not_true, Bool.not_false, wipeE, C, gAll_map]
  | _ => rfl
def ltD : D → D → Bool
  | .str x, .str y => decide (x.cps.toList < y.cps.toList)
  | _, _ => false
def ris (xs : List D) : Bool := (List.range (xs.length - 1)).all fun k => ltD (xs.getD k .non) (xs.getD (k + 1) .non)
theorem name_str {x : D} (h : isName x = true) : ∃ z, x = .str z := by
  cases x with
  | str z => exact ⟨z, rfl⟩
  | _ => cases h
theorem atI_getD {xs : List D} {k : Nat} (h : k < xs.length) : atI xs (k : Int) = some (xs.getD k .non) := by
  rw [atI_nat, List.getD_eq_getElem?_getD, List.getElem?_eq_getElem h]; rfl
theorem v_rising (xs : List D) (hz : xs.length ≤ 20000) (hn : ∀ x ∈ xs, isName x = true) (S : Store) : f_is_rising [.tup xs] S = some (.bl (ris xs), S) := by
  have st : ∀ k, k < xs.length → ∃ z, xs.getD k .non = .str z := fun k h => name_str (hn _ (by
    rw [List.getD_eq_getElem?_getD, List.getElem?_eq_getElem h]; exact List.getElem_mem h))
  have L : (iRg1 (aC (e2 (gI0 fun i j => i - j) (aG gLen (aC (eP 0) aN)) (eC (.int 1))) aN)) [.d (.tup xs), .un] S = some (ranged 0 (xs.length - 1), S) := by
    simp only [runDef, sSeq, sNil, sRet, sIf, sSet, sSetL, sExt, sApp, sPar, sFreeze, sDrop, eC, eV, eP, e1, e2, l2, eL, aN, aC, aG, aGL, tOf, tAndJ, tOrJ, tNotJ, eAnd, eOr, eNot, eIf, eCh, tTru, gTru, eTup, lDisp, iOf, J.items?, iRg1, iRg2, cYes, bName, bTup, bCons, bNil, mN, mD, mO, setsS, eCall, gIsi, gIsi2, isT_tt, gLen, gI0, gLe_i, gGe_i, gGt_i, gLt_i, gAdd_i,  gListL, gTuple, eSl, oN, oS, List.map_cons, List.map_nil, List.map, List.replicate, List.length_cons, List.length_nil, List.nil_append, List.cons_append, List.append_nil, List.set_cons_zero, List.set_cons_succ, List.set, List.length, List.getElem?_cons_zero, List.getElem?_cons_succ, Nat.sub, Nat.reduceSub, Nat.reduceAdd, Nat.reduceLT, Nat.reduceLeDiff, List.getElem?_nil, Bool.false_eq_true, if_true, if_false, Bool.true_and, Bool.false_and, Bool.and_true, Bool.and_false, Bool.not_true, Bool.not_false, wipeE]
    rw [if_pos (by omega)]
    congr 3
    omega
  have C : lComp [1] (iRg1 (aC (e2 (gI0 fun i j => i - j) (aG gLen (aC (eP 0) aN)) (eC (.int 1))) aN)) (bName 1) cYes (e2 gLt (e2 gIx (eP 0) (eP 1)) (e2 gIx (eP 0) (e2 gAdd (eP 1) (eC (.int 1))))) [.d (.tup xs), .un] S
      = some ((ranged 0 (xs.length - 1)).map fun x => .bl (match x with | .int k => ltD (xs.getD k.toNat .non) (xs.getD (k.toNat + 1) .non) | _ => false), S) :=
    lComp_map (fun x => .bl (match x with | .int k => ltD (xs.getD k.toNat .non) (xs.getD (k.toNat + 1) .non) | _ => false)) L (by unfold ranged; rw [List.length_map, List.length_range]; omega) fun x m => by
      unfold ranged at m
      obtain ⟨k, hk, rfl⟩ := List.mem_map.mp m
      have hk := List.mem_range.mp hk
      have e0 : (0 : Int) + (k : Int) = (k : Int) := by omega
      obtain ⟨z1, q1⟩ := st k (by omega)
      obtain ⟨z2, q2⟩ := st (k + 1) (by omega)
      refine ⟨_, rfl, rfl, ?_⟩
      have i1 : gIx (.tup xs) (.int ((k : Nat) : Int)) = some (xs.getD k .non) := atI_getD (by omega)
      have i2 : gIx (.tup xs) (.int ((k : Int) + 1)) = some (xs.getD (k + 1) .non) := atI_getD (k := k + 1) (by omega)
      simp only [runDef, sSeq, sNil, sRet, sIf, sSet, sSetL, sExt, sApp, sPar, sFreeze, sDrop, eC, eV, eP, e1, e2, l2, eL, aN, aC, aG, aGL, tOf, tAndJ, tOrJ, tNotJ, eAnd, eOr, eNot, eIf, eCh, tTru, gTru, eTup, lDisp, iOf, J.items?, iRg1, iRg2, cYes, bName, bTup, bCons, bNil, mN, mD, mO, setsS, eCall, gIsi, gIsi2, isT_tt, gLen, gI0, gLe_i, gGe_i, gGt_i, gLt_i, gAdd_i,  gListL, gTuple, eSl, oN, oS, List.map_cons, List.map_nil, List.map, List.replicate, List.length_cons, List.length_nil, List.nil_append, List.cons_append, List.append_nil, List.set_cons_zero, List.set_cons_succ, List.set, List.length, List.getElem?_cons_zero, List.getElem?_cons_succ, Nat.sub, Nat.reduceSub, Nat.reduceAdd, Nat.reduceLT, Nat.reduceLeDiff, List.getElem?_nil, Bool.false_eq_true, if_true, if_false, Bool.true_and, Bool.false_and, Bool.and_true, Bool.and_false, Bool.not_true, Bool.not_false, wipeE, e0, i1, i2, q1, q2, Int.toNat_natCast]
      rfl
  have A : (ranged 0 (xs.length - 1)).all (fun x => match x with | .int k => ltD (xs.getD k.toNat .non) (xs.getD (k.toNat + 1) .non) | _ => false) = ris xs := by
    unfold ranged ris
    rw [List.all_map]
    congr 1
    funext k
    show ltD (xs.getD ((0 : Int) + (k : Int)).toNat .non) (xs.getD (((0 : Int) + (k : Int)).toNat + 1) .non) = _
    rw [show ((0 : Int) + (k : Int)).toNat = k by omega]
  unfold f_is_rising g_is_rising
  simp only [runDef, sSeq, sNil, sRet, sIf, sSet, sSetL, sExt, sApp, sPar, sFreeze, sDrop, eC, eV, eP, e1, e2, l2, eL, aN, aC, aG, aGL, tOf, tAndJ, tOrJ, tNotJ, eAnd, eOr, eNot, eIf, eCh, tTru, gTru, eTup, lDisp, iOf, J.items?, iRg1, iRg2, cYes, bName, bTup, bCons, bNil, mN, mD, mO, setsS, eCall, gIsi, gIsi2, isT_tt, gLen, gI0, gLe_i, gGe_i, gGt_i, gLt_i, gAdd_i,  gListL, gTuple, eSl, oN, oS, List.map_cons, List.map_nil, List.map, List.replicate, List.length_cons, List.length_nil, List.nil_append, List.cons_append, List.append_nil, List.set_cons_zero, List.set_cons_succ, List.set, List.length, List.getElem?_cons_zero, List.getElem?_cons_succ, Nat.sub, Nat.reduceSub, Nat.reduceAdd, Nat.reduceLT, Nat.reduceLeDiff, List.getElem?_nil, Bool.false_eq_true, if_true, if_false, Bool.true_and, Bool.false_and, Bool.and_true, Bool.and_false, Bool.not_true, Bool.not_false, wipeE, C, gAll_map, A]
def isSet : D → Bool | .tup xs => xs.all isName && ris xs | _ => false
theorem v_set (d : D) (g : good d = true) (S : Store) : f_is_set [d] S = some (.bl (isSet d), S) := by
  cases d with
  | tup xs =>
    have gg := good_tup g
    have N := v_names (.tup xs) g S
    unfold f_is_set g_is_set isSet
    cases q : xs.all isName with
    | false => simp only [runDef, sSeq, sNil, sRet, sIf, sSet, sSetL, sExt, sApp, sPar, sFreeze, sDrop, eC, eV, eP, e1, e2, l2, eL, aN, aC, aG, aGL, tOf, tAndJ, tOrJ, tNotJ, eAnd, eOr, eNot, eIf, eCh, tTru, gTru, eTup, lDisp, iOf, J.items?, iRg1, iRg2, cYes, bName, bTup, bCons, bNil, mN, mD, mO, setsS, eCall, gIsi, gIsi2, isT_tt, gLen, gI0, gLe_i, gGe_i, gGt_i, gLt_i, gAdd_i,  gListL, gTuple, eSl, oN, oS, List.map_cons, List.map_nil, List.map, List.replicate, List.length_cons, List.length_nil, List.nil_append, List.cons_append, List.append_nil, List.set_cons_zero, List.set_cons_succ, List.set, List.length, List.getElem?_cons_zero, List.getElem?_cons_succ, Nat.sub, Nat.reduceSub, Nat.reduceAdd, Nat.reduceLT, Nat.reduceLeDiff, List.getElem?_nil, Bool.false_eq_true, if_true, if_false, Bool.true_and, Bool.false_and, Bool.and_true, Bool.and_false, Bool.not_true, Bool.not_false, wipeE, N, isNames, q]
    | true =>
      have R := v_rising xs gg.1 (fun x m => List.all_eq_true.mp q x m) S
      simp only [runDef, sSeq, sNil, sRet, sIf, sSet, sSetL, sExt, sApp, sPar, sFreeze, sDrop, eC, eV, eP, e1, e2, l2, eL, aN, aC, aG, aGL, tOf, tAndJ, tOrJ, tNotJ, eAnd, eOr, eNot, eIf, eCh, tTru, gTru, eTup, lDisp, iOf, J.items?, iRg1, iRg2, cYes, bName, bTup, bCons, bNil, mN, mD, mO, setsS, eCall, gIsi, gIsi2, isT_tt, gLen, gI0, gLe_i, gGe_i, gGt_i, gLt_i, gAdd_i,  gListL, gTuple, eSl, oN, oS, List.map_cons, List.map_nil, List.map, List.replicate, List.length_cons, List.length_nil, List.nil_append, List.cons_append, List.append_nil, List.set_cons_zero, List.set_cons_succ, List.set, List.length, List.getElem?_cons_zero, List.getElem?_cons_succ, Nat.sub, Nat.reduceSub, Nat.reduceAdd, Nat.reduceLT, Nat.reduceLeDiff, List.getElem?_nil, Bool.false_eq_true, if_true, if_false, Bool.true_and, Bool.false_and, Bool.and_true, Bool.and_false, Bool.not_true, Bool.not_false, wipeE, N, isNames, q, R]
  | _ => rfl
theorem gEq_i {neg : Bool} (a b : Int) : gEq neg (.int a) (.int b) = some (.bl (if neg then !(a == b) else a == b)) := rfl
def isRow : D → Int → Bool | .tup xs, n => (xs.length : Int) == n | _, _ => false
theorem v_row (d : D) (n : Int) (S : Store) : f_is_row [d, .int n] S = some (.bl (isRow d n), S) := by
  cases d with
  | tup xs =>
    unfold f_is_row g_is_row isRow
    simp only [runDef, sSeq, sNil, sRet, sIf, sSet, sSetL, sExt, sApp, sPar, sFreeze, sDrop, eC, eV, eP, e1, e2, l2, eL, aN, aC, aG, aGL, tOf, tAndJ, tOrJ, tNotJ, eAnd, eOr, eNot, eIf, eCh, tTru, gTru, eTup, lDisp, iOf, J.items?, iRg1, iRg2, cYes, bName, bTup, bCons, bNil, mN, mD, mO, setsS, eCall, gIsi, gIsi2, isT_tt, gLen, gI0, gLe_i, gGe_i, gGt_i, gLt_i, gAdd_i,  gListL, gTuple, eSl, oN, oS, List.map_cons, List.map_nil, List.map, List.replicate, List.length_cons, List.length_nil, List.nil_append, List.cons_append, List.append_nil, List.set_cons_zero, List.set_cons_succ, List.set, List.length, List.getElem?_cons_zero, List.getElem?_cons_succ, Nat.sub, Nat.reduceSub, Nat.reduceAdd, Nat.reduceLT, Nat.reduceLeDiff, List.getElem?_nil, Bool.false_eq_true, if_true, if_false, Bool.true_and, Bool.false_and, Bool.and_true, Bool.and_false, Bool.not_true, Bool.not_false, wipeE, gEq_i]
  | _ => rfl
def isSource : D → Bool | .tup [a, b, c, d, e] => (isName a && isName b) && (isSet c && (isT .bool d && isSet e)) | _ => false
def isParty : D → Bool | .tup [a, b] => isName a && ((isT .int b && !isT .bool b) && (match b with | .int i => decide (1 ≤ i) | _ => false)) | _ => false
def isNon : D → Bool | .non => true | _ => false
def isBuild : D → Bool | .tup [a, b, c, d, e] => (isName a && (isName c && isName e)) && (if isNon b then isUnit d else isName b && isNames d) | _ => false
def isFact : D → Bool | .tup [a, b] => isName a && isName b | _ => false
def isBook : D → Bool | .tup [a, b, c, d] => (isT .tuple a && isT .tuple b && isT .tuple c && isT .tuple d) && (match a, b, c, d with | .tup a, .tup b, .tup c, .tup d => (a.all isSource && b.all isParty) && (c.all isFact && d.all isBuild) | _, _, _, _ => false) | _ => false
theorem five {xs : List D} (h : (xs.length : Int) = 5) : ∃ a b c d e, xs = [a, b, c, d, e] := by
  match xs, h with
  | [a, b, c, d, e], _ => exact ⟨a, b, c, d, e, rfl⟩
  | [], h | [_], h | [_, _], h | [_, _, _], h | [_, _, _, _], h => simp at h
  | _ :: _ :: _ :: _ :: _ :: _ :: _, h => simp at h; omega
theorem four {xs : List D} (h : (xs.length : Int) = 4) : ∃ a b c d, xs = [a, b, c, d] := by
  match xs, h with
  | [a, b, c, d], _ => exact ⟨a, b, c, d, rfl⟩
  | [], h | [_], h | [_, _], h | [_, _, _], h => simp at h
  | _ :: _ :: _ :: _ :: _ :: _, h => simp at h; omega
theorem two {xs : List D} (h : (xs.length : Int) = 2) : ∃ a b, xs = [a, b] := by
  match xs, h with
  | [a, b], _ => exact ⟨a, b, rfl⟩
  | [], h | [_], h => simp at h
  | _ :: _ :: _ :: _, h => simp at h; omega
theorem isSource_no {xs : List D} (h : ¬ (xs.length : Int) = 5) : isSource (.tup xs) = false := by
  unfold isSource; split
  · rename_i q; cases q; exact absurd rfl h
  · rfl
theorem isBuild_no {xs : List D} (h : ¬ (xs.length : Int) = 5) : isBuild (.tup xs) = false := by
  unfold isBuild; split
  · rename_i q; cases q; exact absurd rfl h
  · rfl
theorem isParty_no {xs : List D} (h : ¬ (xs.length : Int) = 2) : isParty (.tup xs) = false := by
  unfold isParty; split
  · rename_i q; cases q; exact absurd rfl h
  · rfl
theorem isFact_no {xs : List D} (h : ¬ (xs.length : Int) = 2) : isFact (.tup xs) = false := by
  unfold isFact; split
  · rename_i q; cases q; exact absurd rfl h
  · rfl
theorem isBook_no {xs : List D} (h : ¬ (xs.length : Int) = 4) : isBook (.tup xs) = false := by
  unfold isBook; split
  · rename_i q; cases q; exact absurd rfl h
  · rfl
theorem v_source (d : D) (g : good d = true) (S : Store) : f_is_source [d] S = some (.bl (isSource d), S) := by
  cases d with
  | tup xs =>
    have gg := good_tup g
    by_cases h : (xs.length : Int) = 5
    · obtain ⟨a, b, c, d, e, rfl⟩ := five h
      have m := gg.2
      simp only [List.mem_cons, List.not_mem_nil, or_false, forall_eq_or_imp, forall_eq] at m
      obtain ⟨ga, gb, gc, gd, ge⟩ := m
      have R : isRow (.tup [a, b, c, d, e]) 5 = true := rfl
      unfold f_is_source g_is_source isSource
      cases qa : isName a <;> cases qb : isName b <;> cases qc : isSet c <;> cases qd : isT .bool d <;>
        simp only [runDef, sSeq, sNil, sRet, sIf, sSet, sSetL, sExt, sApp, sPar, sFreeze, sDrop, eC, eV, eP, e1, e2, l2, eL, aN, aC, aG, aGL, tOf, tAndJ, tOrJ, tNotJ, eAnd, eOr, eNot, eIf, eCh, tTru, gTru, eTup, lDisp, iOf, J.items?, iRg1, iRg2, cYes, bName, bTup, bCons, bNil, mN, mD, mO, setsS, eCall, gIsi, gIsi2, isT_tt, gLen, gI0, gLe_i, gGe_i, gGt_i, gLt_i, gAdd_i,  gListL, gTuple, eSl, oN, oS, List.map_cons, List.map_nil, List.map, List.replicate, List.length_cons, List.length_nil, List.nil_append, List.cons_append, List.append_nil, List.set_cons_zero, List.set_cons_succ, List.set, List.length, List.getElem?_cons_zero, List.getElem?_cons_succ, Nat.sub, Nat.reduceSub, Nat.reduceAdd, Nat.reduceLT, Nat.reduceLeDiff, List.getElem?_nil, Bool.false_eq_true, if_true, if_false, Bool.true_and, Bool.false_and, Bool.and_true, Bool.and_false, Bool.not_true, Bool.not_false, wipeE, v_row, R, v_name a ga, v_name b gb, v_set c gc, v_set e ge, qa, qb, qc, qd]
    · have R : isRow (.tup xs) 5 = false := by unfold isRow; exact beq_eq_false_iff_ne.mpr h
      rw [isSource_no h]
      unfold f_is_source g_is_source
      simp only [runDef, sSeq, sNil, sRet, sIf, sSet, sSetL, sExt, sApp, sPar, sFreeze, sDrop, eC, eV, eP, e1, e2, l2, eL, aN, aC, aG, aGL, tOf, tAndJ, tOrJ, tNotJ, eAnd, eOr, eNot, eIf, eCh, tTru, gTru, eTup, lDisp, iOf, J.items?, iRg1, iRg2, cYes, bName, bTup, bCons, bNil, mN, mD, mO, setsS, eCall, gIsi, gIsi2, isT_tt, gLen, gI0, gLe_i, gGe_i, gGt_i, gLt_i, gAdd_i,  gListL, gTuple, eSl, oN, oS, List.map_cons, List.map_nil, List.map, List.replicate, List.length_cons, List.length_nil, List.nil_append, List.cons_append, List.append_nil, List.set_cons_zero, List.set_cons_succ, List.set, List.length, List.getElem?_cons_zero, List.getElem?_cons_succ, Nat.sub, Nat.reduceSub, Nat.reduceAdd, Nat.reduceLT, Nat.reduceLeDiff, List.getElem?_nil, Bool.false_eq_true, if_true, if_false, Bool.true_and, Bool.false_and, Bool.and_true, Bool.and_false, Bool.not_true, Bool.not_false, wipeE, v_row, R]
  | _ => rfl
theorem v_party (d : D) (g : good d = true) (S : Store) : f_is_party [d] S = some (.bl (isParty d), S) := by
  cases d with
  | tup xs =>
    have gg := good_tup g
    by_cases h : (xs.length : Int) = 2
    · obtain ⟨a, b, rfl⟩ := two h
      have m := gg.2
      simp only [List.mem_cons, List.not_mem_nil, or_false, forall_eq_or_imp, forall_eq] at m
      obtain ⟨ga, gb⟩ := m
      have R : isRow (.tup [a, b]) 2 = true := rfl
      have x0 : gIx (.tup [a, b]) (.int 0) = some a := rfl
      have x1 : gIx (.tup [a, b]) (.int 1) = some b := rfl
      unfold f_is_party g_is_party isParty
      cases qa : isName a
      · simp only [runDef, sSeq, sNil, sRet, sIf, sSet, sSetL, sExt, sApp, sPar, sFreeze, sDrop, eC, eV, eP, e1, e2, l2, eL, aN, aC, aG, aGL, tOf, tAndJ, tOrJ, tNotJ, eAnd, eOr, eNot, eIf, eCh, tTru, gTru, eTup, lDisp, iOf, J.items?, iRg1, iRg2, cYes, bName, bTup, bCons, bNil, mN, mD, mO, setsS, eCall, gIsi, gIsi2, isT_tt, gLen, gI0, gLe_i, gGe_i, gGt_i, gLt_i, gAdd_i,  gListL, gTuple, eSl, oN, oS, List.map_cons, List.map_nil, List.map, List.replicate, List.length_cons, List.length_nil, List.nil_append, List.cons_append, List.append_nil, List.set_cons_zero, List.set_cons_succ, List.set, List.length, List.getElem?_cons_zero, List.getElem?_cons_succ, Nat.sub, Nat.reduceSub, Nat.reduceAdd, Nat.reduceLT, Nat.reduceLeDiff, List.getElem?_nil, Bool.false_eq_true, if_true, if_false, Bool.true_and, Bool.false_and, Bool.and_true, Bool.and_false, Bool.not_true, Bool.not_false, wipeE, v_row, R, x0, x1, v_name a ga, qa]
      · cases b with
        | int i => simp only [runDef, sSeq, sNil, sRet, sIf, sSet, sSetL, sExt, sApp, sPar, sFreeze, sDrop, eC, eV, eP, e1, e2, l2, eL, aN, aC, aG, aGL, tOf, tAndJ, tOrJ, tNotJ, eAnd, eOr, eNot, eIf, eCh, tTru, gTru, eTup, lDisp, iOf, J.items?, iRg1, iRg2, cYes, bName, bTup, bCons, bNil, mN, mD, mO, setsS, eCall, gIsi, gIsi2, isT_tt, gLen, gI0, gLe_i, gGe_i, gGt_i, gLt_i, gAdd_i,  gListL, gTuple, eSl, oN, oS, List.map_cons, List.map_nil, List.map, List.replicate, List.length_cons, List.length_nil, List.nil_append, List.cons_append, List.append_nil, List.set_cons_zero, List.set_cons_succ, List.set, List.length, List.getElem?_cons_zero, List.getElem?_cons_succ, Nat.sub, Nat.reduceSub, Nat.reduceAdd, Nat.reduceLT, Nat.reduceLeDiff, List.getElem?_nil, Bool.false_eq_true, if_true, if_false, Bool.true_and, Bool.false_and, Bool.and_true, Bool.and_false, Bool.not_true, Bool.not_false, wipeE, v_row, R, x0, x1, v_name a ga, qa, v_integer, show isT .int (.int i) = true from rfl, show isT .bool (.int i) = false from rfl]
        | bl i => simp only [runDef, sSeq, sNil, sRet, sIf, sSet, sSetL, sExt, sApp, sPar, sFreeze, sDrop, eC, eV, eP, e1, e2, l2, eL, aN, aC, aG, aGL, tOf, tAndJ, tOrJ, tNotJ, eAnd, eOr, eNot, eIf, eCh, tTru, gTru, eTup, lDisp, iOf, J.items?, iRg1, iRg2, cYes, bName, bTup, bCons, bNil, mN, mD, mO, setsS, eCall, gIsi, gIsi2, isT_tt, gLen, gI0, gLe_i, gGe_i, gGt_i, gLt_i, gAdd_i,  gListL, gTuple, eSl, oN, oS, List.map_cons, List.map_nil, List.map, List.replicate, List.length_cons, List.length_nil, List.nil_append, List.cons_append, List.append_nil, List.set_cons_zero, List.set_cons_succ, List.set, List.length, List.getElem?_cons_zero, List.getElem?_cons_succ, Nat.sub, Nat.reduceSub, Nat.reduceAdd, Nat.reduceLT, Nat.reduceLeDiff, List.getElem?_nil, Bool.false_eq_true, if_true, if_false, Bool.true_and, Bool.false_and, Bool.and_true, Bool.and_false, Bool.not_true, Bool.not_false, wipeE, v_row, R, x0, x1, v_name a ga, qa, v_integer, show isT .int (.bl i) = true from rfl, show isT .bool (.bl i) = true from rfl]
        | _ => simp only [runDef, sSeq, sNil, sRet, sIf, sSet, sSetL, sExt, sApp, sPar, sFreeze, sDrop, eC, eV, eP, e1, e2, l2, eL, aN, aC, aG, aGL, tOf, tAndJ, tOrJ, tNotJ, eAnd, eOr, eNot, eIf, eCh, tTru, gTru, eTup, lDisp, iOf, J.items?, iRg1, iRg2, cYes, bName, bTup, bCons, bNil, mN, mD, mO, setsS, eCall, gIsi, gIsi2, isT_tt, gLen, gI0, gLe_i, gGe_i, gGt_i, gLt_i, gAdd_i,  gListL, gTuple, eSl, oN, oS, List.map_cons, List.map_nil, List.map, List.replicate, List.length_cons, List.length_nil, List.nil_append, List.cons_append, List.append_nil, List.set_cons_zero, List.set_cons_succ, List.set, List.length, List.getElem?_cons_zero, List.getElem?_cons_succ, Nat.sub, Nat.reduceSub, Nat.reduceAdd, Nat.reduceLT, Nat.reduceLeDiff, List.getElem?_nil, Bool.false_eq_true, if_true, if_false, Bool.true_and, Bool.false_and, Bool.and_true, Bool.and_false, Bool.not_true, Bool.not_false, wipeE, v_row, R, x0, x1, v_name a ga, qa, v_integer, show ∀ z, isT .int (.str z) = false from fun _ => rfl, show ∀ z, isT .int (.tup z) = false from fun _ => rfl, show ∀ z, isT .int (.lst z) = false from fun _ => rfl, show ∀ z, isT .int (.frz z) = false from fun _ => rfl, show ∀ z, isT .int (.obj z) = false from fun _ => rfl, show isT .int .non = false from rfl]
    · have R : isRow (.tup xs) 2 = false := by unfold isRow; exact beq_eq_false_iff_ne.mpr h
      rw [isParty_no h]
      unfold f_is_party g_is_party
      simp only [runDef, sSeq, sNil, sRet, sIf, sSet, sSetL, sExt, sApp, sPar, sFreeze, sDrop, eC, eV, eP, e1, e2, l2, eL, aN, aC, aG, aGL, tOf, tAndJ, tOrJ, tNotJ, eAnd, eOr, eNot, eIf, eCh, tTru, gTru, eTup, lDisp, iOf, J.items?, iRg1, iRg2, cYes, bName, bTup, bCons, bNil, mN, mD, mO, setsS, eCall, gIsi, gIsi2, isT_tt, gLen, gI0, gLe_i, gGe_i, gGt_i, gLt_i, gAdd_i,  gListL, gTuple, eSl, oN, oS, List.map_cons, List.map_nil, List.map, List.replicate, List.length_cons, List.length_nil, List.nil_append, List.cons_append, List.append_nil, List.set_cons_zero, List.set_cons_succ, List.set, List.length, List.getElem?_cons_zero, List.getElem?_cons_succ, Nat.sub, Nat.reduceSub, Nat.reduceAdd, Nat.reduceLT, Nat.reduceLeDiff, List.getElem?_nil, Bool.false_eq_true, if_true, if_false, Bool.true_and, Bool.false_and, Bool.and_true, Bool.and_false, Bool.not_true, Bool.not_false, wipeE, v_row, R]
  | _ => rfl
theorem v_fact (d : D) (g : good d = true) (S : Store) : f_is_fact [d] S = some (.bl (isFact d), S) := by
  cases d with
  | tup xs =>
    have gg := good_tup g
    by_cases h : (xs.length : Int) = 2
    · obtain ⟨a, b, rfl⟩ := two h
      have m := gg.2
      simp only [List.mem_cons, List.not_mem_nil, or_false, forall_eq_or_imp, forall_eq] at m
      obtain ⟨ga, gb⟩ := m
      have R : isRow (.tup [a, b]) 2 = true := rfl
      have x0 : gIx (.tup [a, b]) (.int 0) = some a := rfl
      have x1 : gIx (.tup [a, b]) (.int 1) = some b := rfl
      unfold f_is_fact g_is_fact isFact
      cases qa : isName a <;> simp only [runDef, sSeq, sNil, sRet, sIf, sSet, sSetL, sExt, sApp, sPar, sFreeze, sDrop, eC, eV, eP, e1, e2, l2, eL, aN, aC, aG, aGL, tOf, tAndJ, tOrJ, tNotJ, eAnd, eOr, eNot, eIf, eCh, tTru, gTru, eTup, lDisp, iOf, J.items?, iRg1, iRg2, cYes, bName, bTup, bCons, bNil, mN, mD, mO, setsS, eCall, gIsi, gIsi2, isT_tt, gLen, gI0, gLe_i, gGe_i, gGt_i, gLt_i, gAdd_i,  gListL, gTuple, eSl, oN, oS, List.map_cons, List.map_nil, List.map, List.replicate, List.length_cons, List.length_nil, List.nil_append, List.cons_append, List.append_nil, List.set_cons_zero, List.set_cons_succ, List.set, List.length, List.getElem?_cons_zero, List.getElem?_cons_succ, Nat.sub, Nat.reduceSub, Nat.reduceAdd, Nat.reduceLT, Nat.reduceLeDiff, List.getElem?_nil, Bool.false_eq_true, if_true, if_false, Bool.true_and, Bool.false_and, Bool.and_true, Bool.and_false, Bool.not_true, Bool.not_false, wipeE, v_row, R, x0, x1, v_name a ga, v_name b gb, qa]
    · have R : isRow (.tup xs) 2 = false := by unfold isRow; exact beq_eq_false_iff_ne.mpr h
      rw [isFact_no h]
      unfold f_is_fact g_is_fact
      simp only [runDef, sSeq, sNil, sRet, sIf, sSet, sSetL, sExt, sApp, sPar, sFreeze, sDrop, eC, eV, eP, e1, e2, l2, eL, aN, aC, aG, aGL, tOf, tAndJ, tOrJ, tNotJ, eAnd, eOr, eNot, eIf, eCh, tTru, gTru, eTup, lDisp, iOf, J.items?, iRg1, iRg2, cYes, bName, bTup, bCons, bNil, mN, mD, mO, setsS, eCall, gIsi, gIsi2, isT_tt, gLen, gI0, gLe_i, gGe_i, gGt_i, gLt_i, gAdd_i,  gListL, gTuple, eSl, oN, oS, List.map_cons, List.map_nil, List.map, List.replicate, List.length_cons, List.length_nil, List.nil_append, List.cons_append, List.append_nil, List.set_cons_zero, List.set_cons_succ, List.set, List.length, List.getElem?_cons_zero, List.getElem?_cons_succ, Nat.sub, Nat.reduceSub, Nat.reduceAdd, Nat.reduceLT, Nat.reduceLeDiff, List.getElem?_nil, Bool.false_eq_true, if_true, if_false, Bool.true_and, Bool.false_and, Bool.and_true, Bool.and_false, Bool.not_true, Bool.not_false, wipeE, v_row, R]
  | _ => rfl
theorem gIs_non (d : D) : gIs false d .non = some (.bl (isNon d)) := by cases d <;> rfl
theorem v_build (d : D) (g : good d = true) (dp : dpt d ≤ 62) (S : Store) : f_is_build [d] S = some (.bl (isBuild d), S) := by
  cases d with
  | tup xs =>
    have gg := good_tup g
    by_cases h : (xs.length : Int) = 5
    · obtain ⟨a, b, c, d, e, rfl⟩ := five h
      have m := gg.2
      simp only [List.mem_cons, List.not_mem_nil, or_false, forall_eq_or_imp, forall_eq] at m
      obtain ⟨ga, gb, gc, gd, ge⟩ := m
      have dd : dpt d ≤ 64 := by simp only [dpt, dpts] at dp; omega
      have R : isRow (.tup [a, b, c, d, e]) 5 = true := rfl
      unfold f_is_build g_is_build isBuild
      cases qa : isName a <;> cases qc : isName c <;> cases qe : isName e <;> cases qb : isNon b <;> cases q2 : isName b <;>
        simp only [runDef, sSeq, sNil, sRet, sIf, sSet, sSetL, sExt, sApp, sPar, sFreeze, sDrop, eC, eV, eP, e1, e2, l2, eL, aN, aC, aG, aGL, tOf, tAndJ, tOrJ, tNotJ, eAnd, eOr, eNot, eIf, eCh, tTru, gTru, eTup, lDisp, iOf, J.items?, iRg1, iRg2, cYes, bName, bTup, bCons, bNil, mN, mD, mO, setsS, eCall, gIsi, gIsi2, isT_tt, gLen, gI0, gLe_i, gGe_i, gGt_i, gLt_i, gAdd_i,  gListL, gTuple, eSl, oN, oS, List.map_cons, List.map_nil, List.map, List.replicate, List.length_cons, List.length_nil, List.nil_append, List.cons_append, List.append_nil, List.set_cons_zero, List.set_cons_succ, List.set, List.length, List.getElem?_cons_zero, List.getElem?_cons_succ, Nat.sub, Nat.reduceSub, Nat.reduceAdd, Nat.reduceLT, Nat.reduceLeDiff, List.getElem?_nil, Bool.false_eq_true, if_true, if_false, Bool.true_and, Bool.false_and, Bool.and_true, Bool.and_false, Bool.not_true, Bool.not_false, wipeE, v_row, R, v_name a ga, v_name b gb, v_name c gc, v_name e ge, v_names d gd, qa, qb, qc, qe, q2, gIs_non, gEq_unit gd dd, if_pos (Nat.zero_le sizeLine)]
    · have R : isRow (.tup xs) 5 = false := by unfold isRow; exact beq_eq_false_iff_ne.mpr h
      rw [isBuild_no h]
      unfold f_is_build g_is_build
      simp only [runDef, sSeq, sNil, sRet, sIf, sSet, sSetL, sExt, sApp, sPar, sFreeze, sDrop, eC, eV, eP, e1, e2, l2, eL, aN, aC, aG, aGL, tOf, tAndJ, tOrJ, tNotJ, eAnd, eOr, eNot, eIf, eCh, tTru, gTru, eTup, lDisp, iOf, J.items?, iRg1, iRg2, cYes, bName, bTup, bCons, bNil, mN, mD, mO, setsS, eCall, gIsi, gIsi2, isT_tt, gLen, gI0, gLe_i, gGe_i, gGt_i, gLt_i, gAdd_i,  gListL, gTuple, eSl, oN, oS, List.map_cons, List.map_nil, List.map, List.replicate, List.length_cons, List.length_nil, List.nil_append, List.cons_append, List.append_nil, List.set_cons_zero, List.set_cons_succ, List.set, List.length, List.getElem?_cons_zero, List.getElem?_cons_succ, Nat.sub, Nat.reduceSub, Nat.reduceAdd, Nat.reduceLT, Nat.reduceLeDiff, List.getElem?_nil, Bool.false_eq_true, if_true, if_false, Bool.true_and, Bool.false_and, Bool.and_true, Bool.and_false, Bool.not_true, Bool.not_false, wipeE, v_row, R]
  | _ => rfl
theorem isT_tup {d : D} (h : isT .tuple d = true) : ∃ xs, d = .tup xs := by
  cases d with
  | tup xs => exact ⟨xs, rfl⟩
  | _ => cases h
theorem all_comp {F : FN} {p : D → Bool} {ρ : J.Env} {S : Store} {j : Nat} {xs : List D} (l : EL) (hl : l ρ S = some (xs, S)) (hz : xs.length ≤ 20000) (hj : j < ρ.length) (h : ∀ x ∈ xs, F [x] S = some (.bl (p x), S)) :
    lComp [j] l (bName j) cYes (eCall F (aC (eV j) aN)) ρ S = some (xs.map fun x => .bl (p x), S) :=
  lComp_map _ hl (by omega) fun x m => ⟨_, rfl, rfl, by
    have e : (((wipeE ρ [j]).set j (.d x))[j]?) = some (.d x) := by
      unfold wipeE
      rw [List.getElem?_set_self (by simp [wipeE]; exact hj)]
    simp only [eCall, aC, eV, e, aN, h x m]⟩
theorem gAll4 (p q r s : Bool) : gAll [.lst [.bl p, .bl q, .bl r, .bl s]] = some (.bl (p && q && r && s)) := by cases p <;> cases q <;> cases r <;> cases s <;> rfl
theorem v_book (d : D) (g : good d = true) (dp : dpt d ≤ 60) (S : Store) : f_is_book [d] S = some (.bl (isBook d), S) := by
  cases d with
  | tup xs =>
    have gg := good_tup g
    by_cases h : (xs.length : Int) = 4
    · obtain ⟨a, b, c, d, rfl⟩ := four h
      have m := gg.2
      simp only [List.mem_cons, List.not_mem_nil, or_false, forall_eq_or_imp, forall_eq] at m
      obtain ⟨ga, gb, gc, gd⟩ := m
      have R : isRow (.tup [a, b, c, d]) 4 = true := rfl
      have C : ∀ ρ : J.Env, ρ = [.d (.tup [a, b, c, d]), .un, .un, .un, .un, .un, .un] → lComp [5] (iOf (eP 0)) (bName 5) cYes (e1 (gIsi .tuple) (eP 5)) ρ S = some ([a, b, c, d].map fun x => .bl (isT .tuple x), S) := fun ρ e => by
        subst e
        exact lComp_map _ rfl (by simp) fun x m => ⟨_, rfl, rfl, rfl⟩
      have A : [a, b, c, d].all (fun x => isT .tuple x) = (isT .tuple a && isT .tuple b && isT .tuple c && isT .tuple d) := by simp [Bool.and_assoc]
      have C0 := C _ rfl
      by_cases t : (isT .tuple a && isT .tuple b && isT .tuple c && isT .tuple d) = true
      · have t' := t
        rw [Bool.and_eq_true, Bool.and_eq_true, Bool.and_eq_true] at t'
        obtain ⟨⟨⟨ta, tb⟩, tc⟩, td⟩ := t'
        obtain ⟨as, rfl⟩ := isT_tup ta
        obtain ⟨bs, rfl⟩ := isT_tup tb
        obtain ⟨cs, rfl⟩ := isT_tup tc
        obtain ⟨ds, rfl⟩ := isT_tup td
        have ha := good_tup ga
        have hb := good_tup gb
        have hc := good_tup gc
        have hd := good_tup gd
        have dd : ∀ x ∈ ds, dpt x ≤ 62 := by
          simp only [dpt, dpts] at dp
          exact (dpts_le ds).mp (by omega)
        have C1 : ∀ ρ : J.Env, ρ = [.d (.tup [.tup as, .tup bs, .tup cs, .tup ds]), .d (.tup as), .d (.tup bs), .d (.tup cs), .d (.tup ds), .un, .un] → lComp [6] (iOf (eP 1)) (bName 6) cYes (eCall f_is_source (aC (eV 6) aN)) ρ S = some (as.map fun x => .bl (isSource x), S) := fun ρ e => by
          subst e; exact all_comp _ rfl ha.1 (by simp) fun x m => v_source x (ha.2 x m) S
        have C2 : ∀ ρ : J.Env, ρ = [.d (.tup [.tup as, .tup bs, .tup cs, .tup ds]), .d (.tup as), .d (.tup bs), .d (.tup cs), .d (.tup ds), .un, .un] → lComp [6] (iOf (eP 2)) (bName 6) cYes (eCall f_is_party (aC (eV 6) aN)) ρ S = some (bs.map fun x => .bl (isParty x), S) := fun ρ e => by
          subst e; exact all_comp _ rfl hb.1 (by simp) fun x m => v_party x (hb.2 x m) S
        have C3 : ∀ ρ : J.Env, ρ = [.d (.tup [.tup as, .tup bs, .tup cs, .tup ds]), .d (.tup as), .d (.tup bs), .d (.tup cs), .d (.tup ds), .un, .un] → lComp [6] (iOf (eP 3)) (bName 6) cYes (eCall f_is_fact (aC (eV 6) aN)) ρ S = some (cs.map fun x => .bl (isFact x), S) := fun ρ e => by
          subst e; exact all_comp _ rfl hc.1 (by simp) fun x m => v_fact x (hc.2 x m) S
        have C4 : ∀ ρ : J.Env, ρ = [.d (.tup [.tup as, .tup bs, .tup cs, .tup ds]), .d (.tup as), .d (.tup bs), .d (.tup cs), .d (.tup ds), .un, .un] → lComp [6] (iOf (eP 4)) (bName 6) cYes (eCall f_is_build (aC (eV 6) aN)) ρ S = some (ds.map fun x => .bl (isBuild x), S) := fun ρ e => by
          subst e; exact all_comp _ rfl hd.1 (by simp) fun x m => v_build x (hd.2 x m) (dd x m) S
        unfold f_is_book g_is_book isBook
        cases qa : as.all isSource <;> cases qb : bs.all isParty <;> cases qc : cs.all isFact <;> cases qd : ds.all isBuild <;>
          simp only [runDef, sSeq, sNil, sRet, sIf, sSet, sSetL, sExt, sApp, sPar, sFreeze, sDrop, eC, eV, eP, e1, e2, l2, eL, aN, aC, aG, aGL, tOf, tAndJ, tOrJ, tNotJ, eAnd, eOr, eNot, eIf, eCh, tTru, gTru, eTup, lDisp, iOf, J.items?, iRg1, iRg2, cYes, bName, bTup, bCons, bNil, mN, mD, mO, setsS, eCall, gIsi, gIsi2, isT_tt, gLen, gI0, gLe_i, gGe_i, gGt_i, gLt_i, gAdd_i,  gListL, gTuple, eSl, oN, oS, List.map_cons, List.map_nil, List.map, List.replicate, List.length_cons, List.length_nil, List.nil_append, List.cons_append, List.append_nil, List.set_cons_zero, List.set_cons_succ, List.set, List.length, List.getElem?_cons_zero, List.getElem?_cons_succ, Nat.sub, Nat.reduceSub, Nat.reduceAdd, Nat.reduceLT, Nat.reduceLeDiff, List.getElem?_nil, Bool.false_eq_true, if_true, if_false, Bool.true_and, Bool.false_and, Bool.and_true, Bool.and_false, Bool.not_true, Bool.not_false, wipeE, v_row, R, C0, gAll4, gAll_map, t, C1 _ rfl, C2 _ rfl, C3 _ rfl, C4 _ rfl, qa, qb, qc, qd]
      · rw [Bool.not_eq_true] at t
        unfold f_is_book g_is_book isBook
        simp only [runDef, sSeq, sNil, sRet, sIf, sSet, sSetL, sExt, sApp, sPar, sFreeze, sDrop, eC, eV, eP, e1, e2, l2, eL, aN, aC, aG, aGL, tOf, tAndJ, tOrJ, tNotJ, eAnd, eOr, eNot, eIf, eCh, tTru, gTru, eTup, lDisp, iOf, J.items?, iRg1, iRg2, cYes, bName, bTup, bCons, bNil, mN, mD, mO, setsS, eCall, gIsi, gIsi2, isT_tt, gLen, gI0, gLe_i, gGe_i, gGt_i, gLt_i, gAdd_i,  gListL, gTuple, eSl, oN, oS, List.map_cons, List.map_nil, List.map, List.replicate, List.length_cons, List.length_nil, List.nil_append, List.cons_append, List.append_nil, List.set_cons_zero, List.set_cons_succ, List.set, List.length, List.getElem?_cons_zero, List.getElem?_cons_succ, Nat.sub, Nat.reduceSub, Nat.reduceAdd, Nat.reduceLT, Nat.reduceLeDiff, List.getElem?_nil, Bool.false_eq_true, if_true, if_false, Bool.true_and, Bool.false_and, Bool.and_true, Bool.and_false, Bool.not_true, Bool.not_false, wipeE, v_row, R, C0, gAll4, t]
    · have R : isRow (.tup xs) 4 = false := by unfold isRow; exact beq_eq_false_iff_ne.mpr h
      rw [isBook_no h]
      unfold f_is_book g_is_book
      simp only [runDef, sSeq, sNil, sRet, sIf, sSet, sSetL, sExt, sApp, sPar, sFreeze, sDrop, eC, eV, eP, e1, e2, l2, eL, aN, aC, aG, aGL, tOf, tAndJ, tOrJ, tNotJ, eAnd, eOr, eNot, eIf, eCh, tTru, gTru, eTup, lDisp, iOf, J.items?, iRg1, iRg2, cYes, bName, bTup, bCons, bNil, mN, mD, mO, setsS, eCall, gIsi, gIsi2, isT_tt, gLen, gI0, gLe_i, gGe_i, gGt_i, gLt_i, gAdd_i,  gListL, gTuple, eSl, oN, oS, List.map_cons, List.map_nil, List.map, List.replicate, List.length_cons, List.length_nil, List.nil_append, List.cons_append, List.append_nil, List.set_cons_zero, List.set_cons_succ, List.set, List.length, List.getElem?_cons_zero, List.getElem?_cons_succ, Nat.sub, Nat.reduceSub, Nat.reduceAdd, Nat.reduceLT, Nat.reduceLeDiff, List.getElem?_nil, Bool.false_eq_true, if_true, if_false, Bool.true_and, Bool.false_and, Bool.and_true, Bool.and_false, Bool.not_true, Bool.not_false, wipeE, v_row, R]
  | _ => rfl
end K1

set_option maxHeartbeats 4000000
namespace K1
open PySem PySem.Spec PyProof.Rows L2 J
theorem filter_no {α : Type} (p : α → Bool) (xs : List α) : (xs.filter fun x => !p x).isEmpty = xs.all p := by
  induction xs with
  | nil => rfl
  | cons x r ih =>
    cases q : p x
    · rw [List.filter_cons_of_pos (by simp [q])]; simp [q]
    · rw [List.filter_cons_of_neg (by simp [q]), ih]; simp [q]
theorem goods_filter {xs : List D} {p : D → Bool} (h : ∀ x ∈ xs, good x = true) : goods (xs.filter p) = true := (goods_all _).mpr fun x m => h x (List.mem_filter.mp m).1
theorem dpts_filter {xs : List D} {p : D → Bool} {n : Nat} (h : ∀ x ∈ xs, dpt x ≤ n) : dpts (xs.filter p) ≤ n := (dpts_le _).mpr fun x m => h x (List.mem_filter.mp m).1
theorem dpt_tup {xs : List D} {n : Nat} (h : dpt (.tup xs) ≤ n + 1) : ∀ x ∈ xs, dpt x ≤ n := (dpts_le xs).mp (by simp only [dpt] at h; omega)
theorem vl_number (d : D) (S : Store) : f__law_is_number [d] S = f_is_number [d] S := by
  cases d <;> rfl
theorem v_number (d : D) (S : Store) : f_is_number [d] S = some (.bl (match d with | .int i => decide (0 ≤ i) | _ => false), S) := by
  cases d <;> rfl
theorem cut26 : gSl (.str SG) none (some 26) = some (.str FS) := by rfl
theorem vl_name (d : D) (g : good d = true) (S : Store) : f__law_is_name [d] S = some (.bl (isName d), S) := by
  cases d with
  | str z =>
    rw [good, Bool.and_eq_true, decide_eq_true_eq] at g
    have hz : z.length ≤ sizeLine := by rw [sizeLine_eq]; omega
    have hg : ∀ x ∈ J.signs z, good x = true := fun x m => by
      unfold J.signs at m
      obtain ⟨c, hc, rfl⟩ := List.mem_map.mp m
      have h1 := Array.all_eq_true'.mp g.1 c (by simpa using hc)
      rw [good, Bool.and_eq_true]
      exact ⟨by simpa using h1, rfl⟩
    have hd : ∀ x ∈ J.signs z, dpt x ≤ 63 := fun x m => by
      unfold J.signs at m
      obtain ⟨c, hc, rfl⟩ := List.mem_map.mp m
      exact Nat.zero_le _
    have C : ∀ ρ : J.Env, ρ = [.d (.str z), .d (.str SG), .un] → lComp [2] (iOf (eP 0)) (bName 2) (tOf (e2 (gIn true) (eP 2) (eP 1))) (eV 2) ρ S = some ((J.signs z).filter fun x => !(match x with | .str y => inT y SG | _ => false), S) := fun ρ e => by
      subst e
      refine lComp_filter (fun x => !(match x with | .str y => inT y SG | _ => false)) rfl (by unfold J.signs; rw [List.length_map, ← len_cps]; omega) fun x m => ?_
      unfold J.signs at m
      obtain ⟨c, _, rfl⟩ := List.mem_map.mp m
      exact ⟨_, rfl, rfl, rfl⟩
    have A : (J.signs z).all (fun x => match x with | .str y => inT y SG | _ => false) = z.cps.toList.all fun c => inT (sgn c) SG := by
      unfold J.signs; rw [List.all_map]; rfl
    have N := gEq_nil (neg := false) (goods_filter (p := fun x => !(match x with | .str y => inT y SG | _ => false)) hg) (dpts_filter hd)
    rw [filter_no, A] at N
    unfold f__law_is_name g__law_is_name isName
    by_cases h1 : (1 : Int) ≤ (z.length : Int)
    · by_cases h2 : (z.length : Int) ≤ 8
      · obtain ⟨c, r, e⟩ : ∃ c r, z.cps.toList = c :: r := by
          cases q : z.cps.toList with
          | nil => rw [len_cps, q] at h1; simp at h1
          | cons c r => exact ⟨c, r, rfl⟩
        simp only [runDef, sSeq, sNil, sRet, sIf, sSet, sSetL, sExt, sApp, sPar, sFreeze, sDrop, eC, eV, eP, e1, e2, l2, eL, aN, aC, aG, aGL, tOf, tAndJ, tOrJ, tNotJ, eAnd, eOr, eNot, eIf, eCh, tTru, gTru, eTup, lDisp, iOf, J.items?, iRg1, iRg2, cYes, bName, bTup, bCons, bNil, mN, mD, mO, setsS, eCall, gIsi, gIsi2, isT_tt, gLen, gI0, gLe_i, gGe_i, gGt_i, gLt_i, gAdd_i,  gListL, gTuple, eSl, oN, oS, List.map_cons, List.map_nil, List.map, List.replicate, List.length_cons, List.length_nil, List.nil_append, List.cons_append, List.append_nil, List.set_cons_zero, List.set_cons_succ, List.set, List.length, List.getElem?_cons_zero, List.getElem?_cons_succ, Nat.sub, Nat.reduceSub, Nat.reduceAdd, Nat.reduceLT, Nat.reduceLeDiff, List.getElem?_nil, Bool.false_eq_true, if_true, if_false, Bool.true_and, Bool.false_and, Bool.and_true, Bool.and_false, Bool.not_true, Bool.not_false, wipeE, isT_ss, if_pos hz, decide_eq_true h1, decide_eq_true h2, gIx_0 e g.2, cut26, gIn_s, e]
        rw [e] at N
        cases inT (sgn c) FS <;> simp only [runDef, sSeq, sNil, sRet, sIf, sSet, sSetL, sExt, sApp, sPar, sFreeze, sDrop, eC, eV, eP, e1, e2, l2, eL, aN, aC, aG, aGL, tOf, tAndJ, tOrJ, tNotJ, eAnd, eOr, eNot, eIf, eCh, tTru, gTru, eTup, lDisp, iOf, J.items?, iRg1, iRg2, cYes, bName, bTup, bCons, bNil, mN, mD, mO, setsS, eCall, gIsi, gIsi2, isT_tt, gLen, gI0, gLe_i, gGe_i, gGt_i, gLt_i, gAdd_i,  gListL, gTuple, eSl, oN, oS, List.map_cons, List.map_nil, List.map, List.replicate, List.length_cons, List.length_nil, List.nil_append, List.cons_append, List.append_nil, List.set_cons_zero, List.set_cons_succ, List.set, List.length, List.getElem?_cons_zero, List.getElem?_cons_succ, Nat.sub, Nat.reduceSub, Nat.reduceAdd, Nat.reduceLT, Nat.reduceLeDiff, List.getElem?_nil, Bool.false_eq_true, if_true, if_false, Bool.true_and, Bool.false_and, Bool.and_true, Bool.and_false, Bool.not_true, Bool.not_false, wipeE, C _ rfl, N, if_pos (Nat.zero_le sizeLine)]
      · simp only [runDef, sSeq, sNil, sRet, sIf, sSet, sSetL, sExt, sApp, sPar, sFreeze, sDrop, eC, eV, eP, e1, e2, l2, eL, aN, aC, aG, aGL, tOf, tAndJ, tOrJ, tNotJ, eAnd, eOr, eNot, eIf, eCh, tTru, gTru, eTup, lDisp, iOf, J.items?, iRg1, iRg2, cYes, bName, bTup, bCons, bNil, mN, mD, mO, setsS, eCall, gIsi, gIsi2, isT_tt, gLen, gI0, gLe_i, gGe_i, gGt_i, gLt_i, gAdd_i,  gListL, gTuple, eSl, oN, oS, List.map_cons, List.map_nil, List.map, List.replicate, List.length_cons, List.length_nil, List.nil_append, List.cons_append, List.append_nil, List.set_cons_zero, List.set_cons_succ, List.set, List.length, List.getElem?_cons_zero, List.getElem?_cons_succ, Nat.sub, Nat.reduceSub, Nat.reduceAdd, Nat.reduceLT, Nat.reduceLeDiff, List.getElem?_nil, Bool.false_eq_true, if_true, if_false, Bool.true_and, Bool.false_and, Bool.and_true, Bool.and_false, Bool.not_true, Bool.not_false, wipeE, isT_ss, if_pos hz, decide_eq_true h1, decide_eq_false h2]
    · simp only [runDef, sSeq, sNil, sRet, sIf, sSet, sSetL, sExt, sApp, sPar, sFreeze, sDrop, eC, eV, eP, e1, e2, l2, eL, aN, aC, aG, aGL, tOf, tAndJ, tOrJ, tNotJ, eAnd, eOr, eNot, eIf, eCh, tTru, gTru, eTup, lDisp, iOf, J.items?, iRg1, iRg2, cYes, bName, bTup, bCons, bNil, mN, mD, mO, setsS, eCall, gIsi, gIsi2, isT_tt, gLen, gI0, gLe_i, gGe_i, gGt_i, gLt_i, gAdd_i,  gListL, gTuple, eSl, oN, oS, List.map_cons, List.map_nil, List.map, List.replicate, List.length_cons, List.length_nil, List.nil_append, List.cons_append, List.append_nil, List.set_cons_zero, List.set_cons_succ, List.set, List.length, List.getElem?_cons_zero, List.getElem?_cons_succ, Nat.sub, Nat.reduceSub, Nat.reduceAdd, Nat.reduceLT, Nat.reduceLeDiff, List.getElem?_nil, Bool.false_eq_true, if_true, if_false, Bool.true_and, Bool.false_and, Bool.and_true, Bool.and_false, Bool.not_true, Bool.not_false, wipeE, isT_ss, if_pos hz, decide_eq_false h1]
  | _ => rfl
theorem vl_are_names (d : D) (g : good d = true) (dp : dpt d ≤ 64) (S : Store) : f__law_are_names [d] S = some (.bl (isNames d), S) := by
  cases d with
  | tup xs =>
    have gg := good_tup g
    have C : lComp [1] (iOf (eP 0)) (bName 1) (tNotJ (tTru (eCall f__law_is_name (aC (eV 1) aN)))) (eV 1) [.d (.tup xs), .un] S = some (xs.filter fun x => !isName x, S) :=
      lComp_filter (fun x => !isName x) rfl (by omega) fun x m => ⟨_, rfl, by simp only [runDef, sSeq, sNil, sRet, sIf, sSet, sSetL, sExt, sApp, sPar, sFreeze, sDrop, eC, eV, eP, e1, e2, l2, eL, aN, aC, aG, aGL, tOf, tAndJ, tOrJ, tNotJ, eAnd, eOr, eNot, eIf, eCh, tTru, gTru, eTup, lDisp, iOf, J.items?, iRg1, iRg2, cYes, bName, bTup, bCons, bNil, mN, mD, mO, setsS, eCall, gIsi, gIsi2, isT_tt, gLen, gI0, gLe_i, gGe_i, gGt_i, gLt_i, gAdd_i,  gListL, gTuple, eSl, oN, oS, List.map_cons, List.map_nil, List.map, List.replicate, List.length_cons, List.length_nil, List.nil_append, List.cons_append, List.append_nil, List.set_cons_zero, List.set_cons_succ, List.set, List.length, List.getElem?_cons_zero, List.getElem?_cons_succ, Nat.sub, Nat.reduceSub, Nat.reduceAdd, Nat.reduceLT, Nat.reduceLeDiff, List.getElem?_nil, Bool.false_eq_true, if_true, if_false, Bool.true_and, Bool.false_and, Bool.and_true, Bool.and_false, Bool.not_true, Bool.not_false, wipeE, vl_name x (gg.2 x m)], rfl⟩
    have N := gEq_nil (neg := false) (goods_filter (p := fun x => !isName x) gg.2) (dpts_filter (dpt_tup (n := 63) dp))
    rw [filter_no] at N
    unfold f__law_are_names g__law_are_names isNames
    simp only [runDef, sSeq, sNil, sRet, sIf, sSet, sSetL, sExt, sApp, sPar, sFreeze, sDrop, eC, eV, eP, e1, e2, l2, eL, aN, aC, aG, aGL, tOf, tAndJ, tOrJ, tNotJ, eAnd, eOr, eNot, eIf, eCh, tTru, gTru, eTup, lDisp, iOf, J.items?, iRg1, iRg2, cYes, bName, bTup, bCons, bNil, mN, mD, mO, setsS, eCall, gIsi, gIsi2, isT_tt, gLen, gI0, gLe_i, gGe_i, gGt_i, gLt_i, gAdd_i,  gListL, gTuple, eSl, oN, oS, List.map_cons, List.map_nil, List.map, List.replicate, List.length_cons, List.length_nil, List.nil_append, List.cons_append, List.append_nil, List.set_cons_zero, List.set_cons_succ, List.set, List.length, List.getElem?_cons_zero, List.getElem?_cons_succ, Nat.sub, Nat.reduceSub, Nat.reduceAdd, Nat.reduceLT, Nat.reduceLeDiff, List.getElem?_nil, Bool.false_eq_true, if_true, if_false, Bool.true_and, Bool.false_and, Bool.and_true, Bool.and_false, Bool.not_true, Bool.not_false, wipeE, C, N, if_pos (Nat.zero_le sizeLine)]
  | _ => rfl
theorem rg2_len {xs : List D} {ρ : J.Env} {S : Store} (h : ρ[0]? = some (.d (.tup xs))) (hz : xs.length ≤ 20000) : (iRg2 (aC (eC (.int 1)) (aC (aG gLen (aC (eP 0) aN)) aN))) ρ S = some (ranged 1 (xs.length - 1), S) := by
  have e : (aC (eC (.int 1)) (aC (aG gLen (aC (eP 0) aN)) aN)) ρ S = some ([.int 1, .int (xs.length : Int)], S) := by
    simp only [aC, eC, aG, eP, h, aN, gLen]
  unfold iRg2
  rw [e]
  show (if (-(2 ^ 62) ≤ (1 : Int) ∧ (1 : Int) < 2 ^ 62) ∧ -(2 ^ 62) ≤ (xs.length : Int) ∧ (xs.length : Int) < 2 ^ 62 then some (ranged 1 ((xs.length : Int) - 1).toNat, S) else none) = _
  rw [if_pos ⟨⟨by omega, by omega⟩, by omega, by omega⟩, show ((xs.length : Int) - 1).toNat = xs.length - 1 by omega]
def bk (xs : List D) : D → Bool | .int k => ltD (xs.getD (k.toNat - 1) .non) (xs.getD k.toNat .non) | _ => false
theorem ris_back (xs : List D) : (ranged 1 (xs.length - 1)).all (bk xs) = ris xs := by
  unfold ranged ris
  rw [List.all_map]
  refine congrArg (fun f => (List.range (xs.length - 1)).all f) (funext fun k => ?_)
  show ltD (xs.getD (((1 : Int) + (k : Int)).toNat - 1) .non) (xs.getD ((1 : Int) + (k : Int)).toNat .non) = _
  rw [show ((1 : Int) + (k : Int)).toNat = k + 1 by omega]
  rfl
theorem isSet_tup (xs : List D) : isSet (.tup xs) = (isNames (.tup xs) && ris xs) := rfl
theorem bk_at {xs : List D} {k : Nat} {z1 z2 : Str} (h1 : xs.getD k .non = .str z1) (h2 : xs.getD (k + 1) .non = .str z2) : bk xs (.int ((1 : Int) + (k : Int))) = decide (z1.cps.toList < z2.cps.toList) := by
  show ltD (xs.getD (((1 : Int) + (k : Int)).toNat - 1) .non) (xs.getD ((1 : Int) + (k : Int)).toNat .non) = _
  rw [show ((1 : Int) + (k : Int)).toNat = k + 1 by omega, h2, show k + 1 - 1 = k from rfl, h1]
  rfl
theorem back_comp {xs : List D} (hz : xs.length ≤ 20000) (q : xs.all isName = true) (S : Store) : lComp [1] (iRg2 (aC (eC (.int 1)) (aC (aG gLen (aC (eP 0) aN)) aN))) (bName 1) (tOf (e2 gGe (e2 gIx (eP 0) (e2 (gI0 fun i j => i - j) (eP 1) (eC (.int 1)))) (e2 gIx (eP 0) (eP 1)))) (eV 1) [.d (.tup xs), .un] S
          = some ((ranged 1 (xs.length - 1)).filter fun x => !bk xs x, S) := by
  have st : ∀ k, k < xs.length → ∃ z, xs.getD k .non = .str z := fun k h => name_str (List.all_eq_true.mp q _ (by
    rw [List.getD_eq_getElem?_getD, List.getElem?_eq_getElem h]; exact List.getElem_mem h))
  refine lComp_filter (fun x => !bk xs x) (rg2_len (xs := xs) (ρ := [.d (.tup xs), .un]) (S := S) rfl hz) (by unfold ranged; rw [List.length_map, List.length_range]; omega) fun x m => ?_
  unfold ranged at m
  obtain ⟨k, hk, rfl⟩ := List.mem_map.mp m
  have hk := List.mem_range.mp hk
  have u1 : (1 : Int) + (k : Int) - 1 = (k : Int) := by omega
  obtain ⟨z1, q1⟩ := st k (by omega)
  obtain ⟨z2, q2⟩ := st (k + 1) (by omega)
  have i1 : gIx (.tup xs) (.int (k : Int)) = some (xs.getD k .non) := atI_getD (by omega)
  have i2 : gIx (.tup xs) (.int ((1 : Int) + (k : Int))) = some (xs.getD (k + 1) .non) := by
    rw [show (1 : Int) + (k : Int) = ((k + 1 : Nat) : Int) by omega]; exact atI_getD (k := k + 1) (by omega)
  refine ⟨_, rfl, ?_, rfl⟩
  rw [bk_at q1 q2]
  simp only [runDef, sSeq, sNil, sRet, sIf, sSet, sSetL, sExt, sApp, sPar, sFreeze, sDrop, eC, eV, eP, e1, e2, l2, eL, aN, aC, aG, aGL, tOf, tAndJ, tOrJ, tNotJ, eAnd, eOr, eNot, eIf, eCh, tTru, gTru, eTup, lDisp, iOf, J.items?, iRg1, iRg2, cYes, bName, bTup, bCons, bNil, mN, mD, mO, setsS, eCall, gIsi, gIsi2, isT_tt, gLen, gI0, gLe_i, gGe_i, gGt_i, gLt_i, gAdd_i,  gListL, gTuple, eSl, oN, oS, List.map_cons, List.map_nil, List.map, List.replicate, List.length_cons, List.length_nil, List.nil_append, List.cons_append, List.append_nil, List.set_cons_zero, List.set_cons_succ, List.set, List.length, List.getElem?_cons_zero, List.getElem?_cons_succ, Nat.sub, Nat.reduceSub, Nat.reduceAdd, Nat.reduceLT, Nat.reduceLeDiff, List.getElem?_nil, Bool.false_eq_true, if_true, if_false, Bool.true_and, Bool.false_and, Bool.and_true, Bool.and_false, Bool.not_true, Bool.not_false, wipeE, u1, i1, i2, q1, q2]
  rfl
theorem e2_at {g : D → D → Option D} {f h : EX} {ρ : J.Env} {S S1 S2 : Store} {x y z : D} (h1 : f ρ S = some (x, S1)) (h2 : h ρ S1 = some (y, S2)) (h3 : g x y = some z) : e2 g f h ρ S = some (z, S2) := by
  unfold e2; rw [h1]; simp only; rw [h2]; simp only; rw [h3]
theorem eL_at {f : EL} {ρ : J.Env} {S S1 : Store} {xs : List D} (h1 : f ρ S = some (xs, S1)) : eL f ρ S = some (.lst xs, S1) := by
  unfold eL; rw [h1]
theorem nil_at {ρ : J.Env} {S : Store} : lDisp aN ρ S = some ([], S) := by
  show (if ([] : List D).length ≤ sizeLine then some (([] : List D), S) else none) = _
  exact if_pos (show ([] : List D).length ≤ sizeLine from Nat.zero_le _)
theorem seq_at {g1 g2 : GS} {ρ ρ1 : J.Env} {S S1 : Store} (h : g1 ρ S = some (.nx ρ1, S1)) : sSeq g1 g2 ρ S = g2 ρ1 S1 := by
  unfold sSeq; rw [h]
theorem ret_at {f : EX} {ρ : J.Env} {S S1 : Store} {x : D} (h : f ρ S = some (x, S1)) : sRet f ρ S = some (.rt x, S1) := by
  unfold sRet; rw [h]
theorem run_at {n : Nat} {g : GS} {ds : List D} {S S1 : Store} {x : D} (h : g (ds.map Slot.d ++ List.replicate (n - ds.length) .un) S = some (.rt x, S1)) : runDef n g ds S = some (x, S1) := by
  unfold runDef; rw [h]
theorem vl_set (d : D) (g : good d = true) (dp : dpt d ≤ 64) (S : Store) : f__law_is_set [d] S = some (.bl (isSet d), S) := by
  have N0 := vl_are_names d g dp S
  unfold f__law_is_set g__law_is_set
  cases q : isNames d with
  | false =>
    rw [show isSet d = false by
      cases d with
      | tup xs => rw [isSet_tup, q]; rfl
      | _ => rfl]
    simp only [runDef, sSeq, sNil, sRet, sIf, sSet, sSetL, sExt, sApp, sPar, sFreeze, sDrop, eC, eV, eP, e1, e2, l2, eL, aN, aC, aG, aGL, tOf, tAndJ, tOrJ, tNotJ, eAnd, eOr, eNot, eIf, eCh, tTru, gTru, eTup, lDisp, iOf, J.items?, iRg1, iRg2, cYes, bName, bTup, bCons, bNil, mN, mD, mO, setsS, eCall, gIsi, gIsi2, isT_tt, gLen, gI0, gLe_i, gGe_i, gGt_i, gLt_i, gAdd_i,  gListL, gTuple, eSl, oN, oS, List.map_cons, List.map_nil, List.map, List.replicate, List.length_cons, List.length_nil, List.nil_append, List.cons_append, List.append_nil, List.set_cons_zero, List.set_cons_succ, List.set, List.length, List.getElem?_cons_zero, List.getElem?_cons_succ, Nat.sub, Nat.reduceSub, Nat.reduceAdd, Nat.reduceLT, Nat.reduceLeDiff, List.getElem?_nil, Bool.false_eq_true, if_true, if_false, Bool.true_and, Bool.false_and, Bool.and_true, Bool.and_false, Bool.not_true, Bool.not_false, wipeE, N0, q]
  | true =>
    cases d with
    | tup xs =>
      have gg := good_tup g
      have C := back_comp gg.1 q S
      have N := gEq_nil (neg := false) (goods_filter (p := fun x => !bk xs x) (xs := ranged 1 (xs.length - 1)) fun x m => by
        unfold ranged at m
        obtain ⟨k, hk, rfl⟩ := List.mem_map.mp m
        rfl) (dpts_filter (n := 63) fun x m => by
        unfold ranged at m
        obtain ⟨k, hk, rfl⟩ := List.mem_map.mp m
        exact Nat.zero_le _)
      rw [filter_no, ris_back] at N
      rw [isSet_tup, q]
      have E : e2 (gEq false) (eL (lComp [1] (iRg2 (aC (eC (.int 1)) (aC (aG gLen (aC (eP 0) aN)) aN))) (bName 1) (tOf (e2 gGe (e2 gIx (eP 0) (e2 (gI0 fun i j => i - j) (eP 1) (eC (.int 1)))) (e2 gIx (eP 0) (eP 1)))) (eV 1))) (eL (lDisp aN)) [.d (.tup xs), .un] S = some (.bl (ris xs), S) := e2_at (eL_at C) (eL_at nil_at) N
      have T : sIf (tNotJ (tTru (eCall f__law_are_names (aC (eV 0) aN)))) (sRet (eC (.bl false))) sNil [.d (.tup xs), .un] S = some (.nx [.d (.tup xs), .un], S) := by simp only [runDef, sSeq, sNil, sRet, sIf, sSet, sSetL, sExt, sApp, sPar, sFreeze, sDrop, eC, eV, eP, e1, e2, l2, eL, aN, aC, aG, aGL, tOf, tAndJ, tOrJ, tNotJ, eAnd, eOr, eNot, eIf, eCh, tTru, gTru, eTup, lDisp, iOf, J.items?, iRg1, iRg2, cYes, bName, bTup, bCons, bNil, mN, mD, mO, setsS, eCall, gIsi, gIsi2, isT_tt, gLen, gI0, gLe_i, gGe_i, gGt_i, gLt_i, gAdd_i,  gListL, gTuple, eSl, oN, oS, List.map_cons, List.map_nil, List.map, List.replicate, List.length_cons, List.length_nil, List.nil_append, List.cons_append, List.append_nil, List.set_cons_zero, List.set_cons_succ, List.set, List.length, List.getElem?_cons_zero, List.getElem?_cons_succ, Nat.sub, Nat.reduceSub, Nat.reduceAdd, Nat.reduceLT, Nat.reduceLeDiff, List.getElem?_nil, Bool.false_eq_true, if_true, if_false, Bool.true_and, Bool.false_and, Bool.and_true, Bool.and_false, Bool.not_true, Bool.not_false, wipeE, N0, q]
      exact run_at ((seq_at T).trans (ret_at E))
    | _ => cases q
end K1

set_option maxHeartbeats 4000000
namespace K1
open PySem PySem.Spec PyProof.Rows L2 J
theorem cut2 (a b c d e : D) : gSl (.tup [a, b, c, d, e]) none (some 2) = some (.tup [a, b]) := rfl
theorem vl_source (d : D) (g : good d = true) (dp : dpt d ≤ 63) (S : Store) : f__law_is_source [d] S = some (.bl (isSource d), S) := by
  cases d with
  | tup xs =>
    have gg := good_tup g
    by_cases h : (xs.length : Int) = 5
    · obtain ⟨a, b, c, d, e, rfl⟩ := five h
      have m := gg.2
      simp only [List.mem_cons, List.not_mem_nil, or_false, forall_eq_or_imp, forall_eq] at m
      obtain ⟨ga, gb, gc, gd, ge⟩ := m
      have dd := dpt_tup (n := 62) dp
      simp only [List.mem_cons, List.not_mem_nil, or_false, forall_eq_or_imp, forall_eq] at dd
      obtain ⟨da, db, dc, dd, de⟩ := dd
      have x2 : gIx (.tup [a, b, c, d, e]) (.int 2) = some c := rfl
      have x3 : gIx (.tup [a, b, c, d, e]) (.int 3) = some d := rfl
      have x4 : gIx (.tup [a, b, c, d, e]) (.int 4) = some e := rfl
      have N := vl_are_names (.tup [a, b]) (by simp [good, goods, ga, gb]) (by simp [dpt, dpts]; omega) S
      have N' : isNames (.tup [a, b]) = (isName a && isName b) := by simp [isNames]
      rw [N'] at N
      unfold f__law_is_source g__law_is_source isSource
      cases qa : (isName a && isName b) <;> cases qc : isSet c <;> cases qd : isT .bool d <;>
        (rw [qa] at N; simp only [runDef, sSeq, sNil, sRet, sIf, sSet, sSetL, sExt, sApp, sPar, sFreeze, sDrop, eC, eV, eP, e1, e2, l2, eL, aN, aC, aG, aGL, tOf, tAndJ, tOrJ, tNotJ, eAnd, eOr, eNot, eIf, eCh, tTru, gTru, eTup, lDisp, iOf, J.items?, iRg1, iRg2, cYes, bName, bTup, bCons, bNil, mN, mD, mO, setsS, eCall, gIsi, gIsi2, isT_tt, gLen, gI0, gLe_i, gGe_i, gGt_i, gLt_i, gAdd_i,  gListL, gTuple, eSl, oN, oS, List.map_cons, List.map_nil, List.map, List.replicate, List.length_cons, List.length_nil, List.nil_append, List.cons_append, List.append_nil, List.set_cons_zero, List.set_cons_succ, List.set, List.length, List.getElem?_cons_zero, List.getElem?_cons_succ, Nat.sub, Nat.reduceSub, Nat.reduceAdd, Nat.reduceLT, Nat.reduceLeDiff, List.getElem?_nil, Bool.false_eq_true, if_true, if_false, Bool.true_and, Bool.false_and, Bool.and_true, Bool.and_false, Bool.not_true, Bool.not_false, wipeE, gEq_i, h, N, qa, qc, qd, cut2, x2, x3, x4, vl_set c gc (by omega), vl_set e ge (by omega), show (((5 : Nat) : Int) == 5) = true from rfl])
    · rw [isSource_no h]
      unfold f__law_is_source g__law_is_source
      simp only [runDef, sSeq, sNil, sRet, sIf, sSet, sSetL, sExt, sApp, sPar, sFreeze, sDrop, eC, eV, eP, e1, e2, l2, eL, aN, aC, aG, aGL, tOf, tAndJ, tOrJ, tNotJ, eAnd, eOr, eNot, eIf, eCh, tTru, gTru, eTup, lDisp, iOf, J.items?, iRg1, iRg2, cYes, bName, bTup, bCons, bNil, mN, mD, mO, setsS, eCall, gIsi, gIsi2, isT_tt, gLen, gI0, gLe_i, gGe_i, gGt_i, gLt_i, gAdd_i,  gListL, gTuple, eSl, oN, oS, List.map_cons, List.map_nil, List.map, List.replicate, List.length_cons, List.length_nil, List.nil_append, List.cons_append, List.append_nil, List.set_cons_zero, List.set_cons_succ, List.set, List.length, List.getElem?_cons_zero, List.getElem?_cons_succ, Nat.sub, Nat.reduceSub, Nat.reduceAdd, Nat.reduceLT, Nat.reduceLeDiff, List.getElem?_nil, Bool.false_eq_true, if_true, if_false, Bool.true_and, Bool.false_and, Bool.and_true, Bool.and_false, Bool.not_true, Bool.not_false, wipeE, gEq_i, beq_eq_false_iff_ne.mpr h]
  | _ => rfl
theorem vl_party (d : D) (g : good d = true) (S : Store) : f__law_is_party [d] S = some (.bl (isParty d), S) := by
  cases d with
  | tup xs =>
    have gg := good_tup g
    by_cases h : (xs.length : Int) = 2
    · obtain ⟨a, b, rfl⟩ := two h
      have m := gg.2
      simp only [List.mem_cons, List.not_mem_nil, or_false, forall_eq_or_imp, forall_eq] at m
      obtain ⟨ga, gb⟩ := m
      have x0 : gIx (.tup [a, b]) (.int 0) = some a := rfl
      have x1 : gIx (.tup [a, b]) (.int 1) = some b := rfl
      unfold f__law_is_party g__law_is_party isParty
      cases qa : isName a
      · simp only [runDef, sSeq, sNil, sRet, sIf, sSet, sSetL, sExt, sApp, sPar, sFreeze, sDrop, eC, eV, eP, e1, e2, l2, eL, aN, aC, aG, aGL, tOf, tAndJ, tOrJ, tNotJ, eAnd, eOr, eNot, eIf, eCh, tTru, gTru, eTup, lDisp, iOf, J.items?, iRg1, iRg2, cYes, bName, bTup, bCons, bNil, mN, mD, mO, setsS, eCall, gIsi, gIsi2, isT_tt, gLen, gI0, gLe_i, gGe_i, gGt_i, gLt_i, gAdd_i,  gListL, gTuple, eSl, oN, oS, List.map_cons, List.map_nil, List.map, List.replicate, List.length_cons, List.length_nil, List.nil_append, List.cons_append, List.append_nil, List.set_cons_zero, List.set_cons_succ, List.set, List.length, List.getElem?_cons_zero, List.getElem?_cons_succ, Nat.sub, Nat.reduceSub, Nat.reduceAdd, Nat.reduceLT, Nat.reduceLeDiff, List.getElem?_nil, Bool.false_eq_true, if_true, if_false, Bool.true_and, Bool.false_and, Bool.and_true, Bool.and_false, Bool.not_true, Bool.not_false, wipeE, gEq_i, h, x0, x1, vl_name a ga, qa, show (((2 : Nat) : Int) == 2) = true from rfl]
      · cases b with
        | int i =>
          simp only [runDef, sSeq, sNil, sRet, sIf, sSet, sSetL, sExt, sApp, sPar, sFreeze, sDrop, eC, eV, eP, e1, e2, l2, eL, aN, aC, aG, aGL, tOf, tAndJ, tOrJ, tNotJ, eAnd, eOr, eNot, eIf, eCh, tTru, gTru, eTup, lDisp, iOf, J.items?, iRg1, iRg2, cYes, bName, bTup, bCons, bNil, mN, mD, mO, setsS, eCall, gIsi, gIsi2, isT_tt, gLen, gI0, gLe_i, gGe_i, gGt_i, gLt_i, gAdd_i,  gListL, gTuple, eSl, oN, oS, List.map_cons, List.map_nil, List.map, List.replicate, List.length_cons, List.length_nil, List.nil_append, List.cons_append, List.append_nil, List.set_cons_zero, List.set_cons_succ, List.set, List.length, List.getElem?_cons_zero, List.getElem?_cons_succ, Nat.sub, Nat.reduceSub, Nat.reduceAdd, Nat.reduceLT, Nat.reduceLeDiff, List.getElem?_nil, Bool.false_eq_true, if_true, if_false, Bool.true_and, Bool.false_and, Bool.and_true, Bool.and_false, Bool.not_true, Bool.not_false, wipeE, gEq_i, h, x0, x1, vl_name a ga, qa, vl_number, v_number, show (((2 : Nat) : Int) == 2) = true from rfl, show isT .int (.int i) = true from rfl, show isT .bool (.int i) = false from rfl]
          by_cases q : (0 : Int) ≤ i
          · by_cases q2 : (0 : Int) < i
            · simp only [runDef, sSeq, sNil, sRet, sIf, sSet, sSetL, sExt, sApp, sPar, sFreeze, sDrop, eC, eV, eP, e1, e2, l2, eL, aN, aC, aG, aGL, tOf, tAndJ, tOrJ, tNotJ, eAnd, eOr, eNot, eIf, eCh, tTru, gTru, eTup, lDisp, iOf, J.items?, iRg1, iRg2, cYes, bName, bTup, bCons, bNil, mN, mD, mO, setsS, eCall, gIsi, gIsi2, isT_tt, gLen, gI0, gLe_i, gGe_i, gGt_i, gLt_i, gAdd_i,  gListL, gTuple, eSl, oN, oS, List.map_cons, List.map_nil, List.map, List.replicate, List.length_cons, List.length_nil, List.nil_append, List.cons_append, List.append_nil, List.set_cons_zero, List.set_cons_succ, List.set, List.length, List.getElem?_cons_zero, List.getElem?_cons_succ, Nat.sub, Nat.reduceSub, Nat.reduceAdd, Nat.reduceLT, Nat.reduceLeDiff, List.getElem?_nil, Bool.false_eq_true, if_true, if_false, Bool.true_and, Bool.false_and, Bool.and_true, Bool.and_false, Bool.not_true, Bool.not_false, wipeE, decide_eq_true q, decide_eq_true q2, decide_eq_true (show (1 : Int) ≤ i by omega)]
            · simp only [runDef, sSeq, sNil, sRet, sIf, sSet, sSetL, sExt, sApp, sPar, sFreeze, sDrop, eC, eV, eP, e1, e2, l2, eL, aN, aC, aG, aGL, tOf, tAndJ, tOrJ, tNotJ, eAnd, eOr, eNot, eIf, eCh, tTru, gTru, eTup, lDisp, iOf, J.items?, iRg1, iRg2, cYes, bName, bTup, bCons, bNil, mN, mD, mO, setsS, eCall, gIsi, gIsi2, isT_tt, gLen, gI0, gLe_i, gGe_i, gGt_i, gLt_i, gAdd_i,  gListL, gTuple, eSl, oN, oS, List.map_cons, List.map_nil, List.map, List.replicate, List.length_cons, List.length_nil, List.nil_append, List.cons_append, List.append_nil, List.set_cons_zero, List.set_cons_succ, List.set, List.length, List.getElem?_cons_zero, List.getElem?_cons_succ, Nat.sub, Nat.reduceSub, Nat.reduceAdd, Nat.reduceLT, Nat.reduceLeDiff, List.getElem?_nil, Bool.false_eq_true, if_true, if_false, Bool.true_and, Bool.false_and, Bool.and_true, Bool.and_false, Bool.not_true, Bool.not_false, wipeE, decide_eq_true q, decide_eq_false q2, decide_eq_false (show ¬ (1 : Int) ≤ i by omega)]
          · simp only [runDef, sSeq, sNil, sRet, sIf, sSet, sSetL, sExt, sApp, sPar, sFreeze, sDrop, eC, eV, eP, e1, e2, l2, eL, aN, aC, aG, aGL, tOf, tAndJ, tOrJ, tNotJ, eAnd, eOr, eNot, eIf, eCh, tTru, gTru, eTup, lDisp, iOf, J.items?, iRg1, iRg2, cYes, bName, bTup, bCons, bNil, mN, mD, mO, setsS, eCall, gIsi, gIsi2, isT_tt, gLen, gI0, gLe_i, gGe_i, gGt_i, gLt_i, gAdd_i,  gListL, gTuple, eSl, oN, oS, List.map_cons, List.map_nil, List.map, List.replicate, List.length_cons, List.length_nil, List.nil_append, List.cons_append, List.append_nil, List.set_cons_zero, List.set_cons_succ, List.set, List.length, List.getElem?_cons_zero, List.getElem?_cons_succ, Nat.sub, Nat.reduceSub, Nat.reduceAdd, Nat.reduceLT, Nat.reduceLeDiff, List.getElem?_nil, Bool.false_eq_true, if_true, if_false, Bool.true_and, Bool.false_and, Bool.and_true, Bool.and_false, Bool.not_true, Bool.not_false, wipeE, decide_eq_false q, decide_eq_false (show ¬ (1 : Int) ≤ i by omega)]
        | _ => simp only [runDef, sSeq, sNil, sRet, sIf, sSet, sSetL, sExt, sApp, sPar, sFreeze, sDrop, eC, eV, eP, e1, e2, l2, eL, aN, aC, aG, aGL, tOf, tAndJ, tOrJ, tNotJ, eAnd, eOr, eNot, eIf, eCh, tTru, gTru, eTup, lDisp, iOf, J.items?, iRg1, iRg2, cYes, bName, bTup, bCons, bNil, mN, mD, mO, setsS, eCall, gIsi, gIsi2, isT_tt, gLen, gI0, gLe_i, gGe_i, gGt_i, gLt_i, gAdd_i,  gListL, gTuple, eSl, oN, oS, List.map_cons, List.map_nil, List.map, List.replicate, List.length_cons, List.length_nil, List.nil_append, List.cons_append, List.append_nil, List.set_cons_zero, List.set_cons_succ, List.set, List.length, List.getElem?_cons_zero, List.getElem?_cons_succ, Nat.sub, Nat.reduceSub, Nat.reduceAdd, Nat.reduceLT, Nat.reduceLeDiff, List.getElem?_nil, Bool.false_eq_true, if_true, if_false, Bool.true_and, Bool.false_and, Bool.and_true, Bool.and_false, Bool.not_true, Bool.not_false, wipeE, gEq_i, h, x0, x1, vl_name a ga, qa, vl_number, v_number, show (((2 : Nat) : Int) == 2) = true from rfl, show ∀ z, isT .bool (.bl z) = true from fun _ => rfl, show ∀ z, isT .int (.str z) = false from fun _ => rfl, show ∀ z, isT .int (.tup z) = false from fun _ => rfl, show ∀ z, isT .int (.lst z) = false from fun _ => rfl, show ∀ z, isT .int (.frz z) = false from fun _ => rfl, show ∀ z, isT .int (.obj z) = false from fun _ => rfl, show isT .int .non = false from rfl]
    · rw [isParty_no h]
      unfold f__law_is_party g__law_is_party
      simp only [runDef, sSeq, sNil, sRet, sIf, sSet, sSetL, sExt, sApp, sPar, sFreeze, sDrop, eC, eV, eP, e1, e2, l2, eL, aN, aC, aG, aGL, tOf, tAndJ, tOrJ, tNotJ, eAnd, eOr, eNot, eIf, eCh, tTru, gTru, eTup, lDisp, iOf, J.items?, iRg1, iRg2, cYes, bName, bTup, bCons, bNil, mN, mD, mO, setsS, eCall, gIsi, gIsi2, isT_tt, gLen, gI0, gLe_i, gGe_i, gGt_i, gLt_i, gAdd_i,  gListL, gTuple, eSl, oN, oS, List.map_cons, List.map_nil, List.map, List.replicate, List.length_cons, List.length_nil, List.nil_append, List.cons_append, List.append_nil, List.set_cons_zero, List.set_cons_succ, List.set, List.length, List.getElem?_cons_zero, List.getElem?_cons_succ, Nat.sub, Nat.reduceSub, Nat.reduceAdd, Nat.reduceLT, Nat.reduceLeDiff, List.getElem?_nil, Bool.false_eq_true, if_true, if_false, Bool.true_and, Bool.false_and, Bool.and_true, Bool.and_false, Bool.not_true, Bool.not_false, wipeE, gEq_i, beq_eq_false_iff_ne.mpr h]
  | _ => rfl
theorem unit_names {d : D} (h : isUnit d = true) : isNames d = true := by
  unfold isUnit at h; split at h
  · rfl
  · cases h
theorem vl_build (d : D) (g : good d = true) (dp : dpt d ≤ 62) (S : Store) : f__law_is_build [d] S = some (.bl (isBuild d), S) := by
  cases d with
  | tup xs =>
    have gg := good_tup g
    by_cases h : (xs.length : Int) = 5
    · obtain ⟨a, b, c, d, e, rfl⟩ := five h
      have m := gg.2
      simp only [List.mem_cons, List.not_mem_nil, or_false, forall_eq_or_imp, forall_eq] at m
      obtain ⟨ga, gb, gc, gd, ge⟩ := m
      have dd := dpt_tup (n := 62) (Nat.le_succ_of_le dp)
      simp only [List.mem_cons, List.not_mem_nil, or_false, forall_eq_or_imp, forall_eq] at dd
      obtain ⟨da, db, dc, dd, de⟩ := dd
      have x0 : gIx (.tup [a, b, c, d, e]) (.int 0) = some a := rfl
      have x1 : gIx (.tup [a, b, c, d, e]) (.int 1) = some b := rfl
      have x2 : gIx (.tup [a, b, c, d, e]) (.int 2) = some c := rfl
      have x3 : gIx (.tup [a, b, c, d, e]) (.int 3) = some d := rfl
      have x4 : gIx (.tup [a, b, c, d, e]) (.int 4) = some e := rfl
      have N := vl_are_names d gd (by omega) S
      unfold f__law_is_build g__law_is_build isBuild
      cases qd : isNames d
      · have qu : isUnit d = false := by
          cases z : isUnit d
          · rfl
          · rw [unit_names z] at qd; cases qd
        rw [qd] at N
        simp only [runDef, sSeq, sNil, sRet, sIf, sSet, sSetL, sExt, sApp, sPar, sFreeze, sDrop, eC, eV, eP, e1, e2, l2, eL, aN, aC, aG, aGL, tOf, tAndJ, tOrJ, tNotJ, eAnd, eOr, eNot, eIf, eCh, tTru, gTru, eTup, lDisp, iOf, J.items?, iRg1, iRg2, cYes, bName, bTup, bCons, bNil, mN, mD, mO, setsS, eCall, gIsi, gIsi2, isT_tt, gLen, gI0, gLe_i, gGe_i, gGt_i, gLt_i, gAdd_i,  gListL, gTuple, eSl, oN, oS, List.map_cons, List.map_nil, List.map, List.replicate, List.length_cons, List.length_nil, List.nil_append, List.cons_append, List.append_nil, List.set_cons_zero, List.set_cons_succ, List.set, List.length, List.getElem?_cons_zero, List.getElem?_cons_succ, Nat.sub, Nat.reduceSub, Nat.reduceAdd, Nat.reduceLT, Nat.reduceLeDiff, List.getElem?_nil, Bool.false_eq_true, if_true, if_false, Bool.true_and, Bool.false_and, Bool.and_true, Bool.and_false, Bool.not_true, Bool.not_false, wipeE, gEq_i, h, N, x3, qu, qd, show (((5 : Nat) : Int) == 5) = true from rfl, ite_self]
      · rw [qd] at N
        cases qa : isName a <;> cases qc : isName c <;> cases qe : isName e <;> cases qb : isNon b <;>
          simp only [runDef, sSeq, sNil, sRet, sIf, sSet, sSetL, sExt, sApp, sPar, sFreeze, sDrop, eC, eV, eP, e1, e2, l2, eL, aN, aC, aG, aGL, tOf, tAndJ, tOrJ, tNotJ, eAnd, eOr, eNot, eIf, eCh, tTru, gTru, eTup, lDisp, iOf, J.items?, iRg1, iRg2, cYes, bName, bTup, bCons, bNil, mN, mD, mO, setsS, eCall, gIsi, gIsi2, isT_tt, gLen, gI0, gLe_i, gGe_i, gGt_i, gLt_i, gAdd_i,  gListL, gTuple, eSl, oN, oS, List.map_cons, List.map_nil, List.map, List.replicate, List.length_cons, List.length_nil, List.nil_append, List.cons_append, List.append_nil, List.set_cons_zero, List.set_cons_succ, List.set, List.length, List.getElem?_cons_zero, List.getElem?_cons_succ, Nat.sub, Nat.reduceSub, Nat.reduceAdd, Nat.reduceLT, Nat.reduceLeDiff, List.getElem?_nil, Bool.false_eq_true, if_true, if_false, Bool.true_and, Bool.false_and, Bool.and_true, Bool.and_false, Bool.not_true, Bool.not_false, wipeE, gEq_i, h, N, x0, x1, x2, x3, x4, vl_name a ga, vl_name b gb, vl_name c gc, vl_name e ge, qa, qc, qe, qb, qd, gIs_non, gEq_unit gd (show dpt d ≤ 64 by omega), if_pos (Nat.zero_le sizeLine), show (((5 : Nat) : Int) == 5) = true from rfl]
    · rw [isBuild_no h]
      unfold f__law_is_build g__law_is_build
      simp only [runDef, sSeq, sNil, sRet, sIf, sSet, sSetL, sExt, sApp, sPar, sFreeze, sDrop, eC, eV, eP, e1, e2, l2, eL, aN, aC, aG, aGL, tOf, tAndJ, tOrJ, tNotJ, eAnd, eOr, eNot, eIf, eCh, tTru, gTru, eTup, lDisp, iOf, J.items?, iRg1, iRg2, cYes, bName, bTup, bCons, bNil, mN, mD, mO, setsS, eCall, gIsi, gIsi2, isT_tt, gLen, gI0, gLe_i, gGe_i, gGt_i, gLt_i, gAdd_i,  gListL, gTuple, eSl, oN, oS, List.map_cons, List.map_nil, List.map, List.replicate, List.length_cons, List.length_nil, List.nil_append, List.cons_append, List.append_nil, List.set_cons_zero, List.set_cons_succ, List.set, List.length, List.getElem?_cons_zero, List.getElem?_cons_succ, Nat.sub, Nat.reduceSub, Nat.reduceAdd, Nat.reduceLT, Nat.reduceLeDiff, List.getElem?_nil, Bool.false_eq_true, if_true, if_false, Bool.true_and, Bool.false_and, Bool.and_true, Bool.and_false, Bool.not_true, Bool.not_false, wipeE, gEq_i, beq_eq_false_iff_ne.mpr h]
  | _ => rfl
theorem vl_pair (d : D) (g : good d = true) (dp : dpt d ≤ 64) (S : Store) : f__law_is_pair [d] S = some (.bl (isFact d), S) := by
  have N := vl_are_names d g dp S
  cases d with
  | tup xs =>
    by_cases h : (xs.length : Int) = 2
    · obtain ⟨a, b, rfl⟩ := two h
      have N' : isNames (.tup [a, b]) = (isName a && isName b) := by simp [isNames]
      rw [N'] at N
      unfold f__law_is_pair g__law_is_pair isFact
      cases q : (isName a && isName b) <;> (rw [q] at N; simp only [runDef, sSeq, sNil, sRet, sIf, sSet, sSetL, sExt, sApp, sPar, sFreeze, sDrop, eC, eV, eP, e1, e2, l2, eL, aN, aC, aG, aGL, tOf, tAndJ, tOrJ, tNotJ, eAnd, eOr, eNot, eIf, eCh, tTru, gTru, eTup, lDisp, iOf, J.items?, iRg1, iRg2, cYes, bName, bTup, bCons, bNil, mN, mD, mO, setsS, eCall, gIsi, gIsi2, isT_tt, gLen, gI0, gLe_i, gGe_i, gGt_i, gLt_i, gAdd_i,  gListL, gTuple, eSl, oN, oS, List.map_cons, List.map_nil, List.map, List.replicate, List.length_cons, List.length_nil, List.nil_append, List.cons_append, List.append_nil, List.set_cons_zero, List.set_cons_succ, List.set, List.length, List.getElem?_cons_zero, List.getElem?_cons_succ, Nat.sub, Nat.reduceSub, Nat.reduceAdd, Nat.reduceLT, Nat.reduceLeDiff, List.getElem?_nil, Bool.false_eq_true, if_true, if_false, Bool.true_and, Bool.false_and, Bool.and_true, Bool.and_false, Bool.not_true, Bool.not_false, wipeE, N, q, gEq_i, h, show (((2 : Nat) : Int) == 2) = true from rfl])
    · rw [isFact_no h]
      unfold f__law_is_pair g__law_is_pair
      cases q : isNames (.tup xs) <;> (rw [q] at N; simp only [runDef, sSeq, sNil, sRet, sIf, sSet, sSetL, sExt, sApp, sPar, sFreeze, sDrop, eC, eV, eP, e1, e2, l2, eL, aN, aC, aG, aGL, tOf, tAndJ, tOrJ, tNotJ, eAnd, eOr, eNot, eIf, eCh, tTru, gTru, eTup, lDisp, iOf, J.items?, iRg1, iRg2, cYes, bName, bTup, bCons, bNil, mN, mD, mO, setsS, eCall, gIsi, gIsi2, isT_tt, gLen, gI0, gLe_i, gGe_i, gGt_i, gLt_i, gAdd_i,  gListL, gTuple, eSl, oN, oS, List.map_cons, List.map_nil, List.map, List.replicate, List.length_cons, List.length_nil, List.nil_append, List.cons_append, List.append_nil, List.set_cons_zero, List.set_cons_succ, List.set, List.length, List.getElem?_cons_zero, List.getElem?_cons_succ, Nat.sub, Nat.reduceSub, Nat.reduceAdd, Nat.reduceLT, Nat.reduceLeDiff, List.getElem?_nil, Bool.false_eq_true, if_true, if_false, Bool.true_and, Bool.false_and, Bool.and_true, Bool.and_false, Bool.not_true, Bool.not_false, wipeE, N, q, gEq_i, beq_eq_false_iff_ne.mpr h])
  | _ => rfl
theorem filt_comp {F : FN} {p : D → Bool} {ρ : J.Env} {S : Store} {j : Nat} {xs : List D} (l : EL) (hl : l ρ S = some (xs, S)) (hz : xs.length ≤ 20000) (hj : j < ρ.length) (h : ∀ x ∈ xs, F [x] S = some (.bl (p x), S)) :
    lComp [j] l (bName j) (tNotJ (tTru (eCall F (aC (eV j) aN)))) (eV j) ρ S = some (xs.filter fun x => !p x, S) :=
  lComp_filter _ hl (by omega) fun x m => by
    have e : (((wipeE ρ [j]).set j (.d x))[j]?) = some (.d x) := by
      unfold wipeE
      rw [List.getElem?_set_self (by simp [wipeE]; exact hj)]
    exact ⟨_, rfl, by simp only [tNotJ, tTru, eCall, aC, eV, e, aN, h x m, gTru], by simp only [eV, e]⟩
theorem isBook_four {a b c d : D} (t : (isT .tuple a && isT .tuple b && isT .tuple c && isT .tuple d) = false) : isBook (.tup [a, b, c, d]) = false := by
  unfold isBook; simp only [t, Bool.false_and]
theorem vl_four (xs : List D) (g : good (.tup xs) = true) (dp : dpt (.tup xs) ≤ 60) (S : Store) : f__law_is_four [.tup xs] S = some (.bl ((xs.length : Int) == 4 && xs.all (isT .tuple)), S) := by
  have gg := good_tup g
  by_cases h : (xs.length : Int) = 4
  · have C : lComp [1] (iOf (eP 0)) (bName 1) (tNotJ (tTru (e1 (gIsi .tuple) (eP 1)))) (eV 1) [.d (.tup xs), .un] S = some (xs.filter fun x => !isT .tuple x, S) :=
      lComp_filter (fun x => !isT .tuple x) rfl (by omega) fun x m => ⟨_, rfl, rfl, rfl⟩
    have N := gEq_nil (neg := false) (goods_filter (p := fun x => !isT .tuple x) gg.2) (dpts_filter (dpt_tup (n := 63) (by omega)))
    rw [filter_no] at N
    unfold f__law_is_four g__law_is_four
    simp only [runDef, sSeq, sNil, sRet, sIf, sSet, sSetL, sExt, sApp, sPar, sFreeze, sDrop, eC, eV, eP, e1, e2, l2, eL, aN, aC, aG, aGL, tOf, tAndJ, tOrJ, tNotJ, eAnd, eOr, eNot, eIf, eCh, tTru, gTru, eTup, lDisp, iOf, J.items?, iRg1, iRg2, cYes, bName, bTup, bCons, bNil, mN, mD, mO, setsS, eCall, gIsi, gIsi2, isT_tt, gLen, gI0, gLe_i, gGe_i, gGt_i, gLt_i, gAdd_i,  gListL, gTuple, eSl, oN, oS, List.map_cons, List.map_nil, List.map, List.replicate, List.length_cons, List.length_nil, List.nil_append, List.cons_append, List.append_nil, List.set_cons_zero, List.set_cons_succ, List.set, List.length, List.getElem?_cons_zero, List.getElem?_cons_succ, Nat.sub, Nat.reduceSub, Nat.reduceAdd, Nat.reduceLT, Nat.reduceLeDiff, List.getElem?_nil, Bool.false_eq_true, if_true, if_false, Bool.true_and, Bool.false_and, Bool.and_true, Bool.and_false, Bool.not_true, Bool.not_false, wipeE, gEq_i, h, C, N, show ((4 : Int) == 4) = true from rfl, if_pos (Nat.zero_le sizeLine)]
  · unfold f__law_is_four g__law_is_four
    simp only [runDef, sSeq, sNil, sRet, sIf, sSet, sSetL, sExt, sApp, sPar, sFreeze, sDrop, eC, eV, eP, e1, e2, l2, eL, aN, aC, aG, aGL, tOf, tAndJ, tOrJ, tNotJ, eAnd, eOr, eNot, eIf, eCh, tTru, gTru, eTup, lDisp, iOf, J.items?, iRg1, iRg2, cYes, bName, bTup, bCons, bNil, mN, mD, mO, setsS, eCall, gIsi, gIsi2, isT_tt, gLen, gI0, gLe_i, gGe_i, gGt_i, gLt_i, gAdd_i,  gListL, gTuple, eSl, oN, oS, List.map_cons, List.map_nil, List.map, List.replicate, List.length_cons, List.length_nil, List.nil_append, List.cons_append, List.append_nil, List.set_cons_zero, List.set_cons_succ, List.set, List.length, List.getElem?_cons_zero, List.getElem?_cons_succ, Nat.sub, Nat.reduceSub, Nat.reduceAdd, Nat.reduceLT, Nat.reduceLeDiff, List.getElem?_nil, Bool.false_eq_true, if_true, if_false, Bool.true_and, Bool.false_and, Bool.and_true, Bool.and_false, Bool.not_true, Bool.not_false, wipeE, gEq_i, beq_eq_false_iff_ne.mpr h]
theorem filter_len {α : Type} (p : α → Bool) (xs : List α) : (xs.filter fun x => !p x).length = 0 ↔ xs.all p = true := by
  rw [← filter_no, List.isEmpty_iff, List.length_eq_zero_iff]
theorem vl_book (d : D) (g : good d = true) (dp : dpt d ≤ 60) (S : Store) : f__law_is_book [d] S = some (.bl (isBook d), S) := by
  cases d with
  | tup xs =>
    have N4 := vl_four xs g dp S
    have gg := good_tup g
    by_cases h : (xs.length : Int) = 4
    · obtain ⟨a, b, c, d, rfl⟩ := four h
      rw [h, show ((4 : Int) == 4) = true from rfl, Bool.true_and] at N4
      have A : [a, b, c, d].all (isT .tuple) = (isT .tuple a && isT .tuple b && isT .tuple c && isT .tuple d) := by simp [Bool.and_assoc]
      rw [A] at N4
      cases t : (isT .tuple a && isT .tuple b && isT .tuple c && isT .tuple d) with
      | false =>
        rw [t] at N4
        rw [isBook_four t]
        unfold f__law_is_book g__law_is_book
        simp only [runDef, sSeq, sNil, sRet, sIf, sSet, sSetL, sExt, sApp, sPar, sFreeze, sDrop, eC, eV, eP, e1, e2, l2, eL, aN, aC, aG, aGL, tOf, tAndJ, tOrJ, tNotJ, eAnd, eOr, eNot, eIf, eCh, tTru, gTru, eTup, lDisp, iOf, J.items?, iRg1, iRg2, cYes, bName, bTup, bCons, bNil, mN, mD, mO, setsS, eCall, gIsi, gIsi2, isT_tt, gLen, gI0, gLe_i, gGe_i, gGt_i, gLt_i, gAdd_i,  gListL, gTuple, eSl, oN, oS, List.map_cons, List.map_nil, List.map, List.replicate, List.length_cons, List.length_nil, List.nil_append, List.cons_append, List.append_nil, List.set_cons_zero, List.set_cons_succ, List.set, List.length, List.getElem?_cons_zero, List.getElem?_cons_succ, Nat.sub, Nat.reduceSub, Nat.reduceAdd, Nat.reduceLT, Nat.reduceLeDiff, List.getElem?_nil, Bool.false_eq_true, if_true, if_false, Bool.true_and, Bool.false_and, Bool.and_true, Bool.and_false, Bool.not_true, Bool.not_false, wipeE, N4]
      | true =>
        rw [t] at N4
        have m := gg.2
        simp only [List.mem_cons, List.not_mem_nil, or_false, forall_eq_or_imp, forall_eq] at m
        obtain ⟨ga, gb, gc, gd⟩ := m
        rw [Bool.and_eq_true, Bool.and_eq_true, Bool.and_eq_true] at t
        obtain ⟨⟨⟨ta, tb⟩, tc⟩, td⟩ := t
        obtain ⟨as, rfl⟩ := isT_tup ta
        obtain ⟨bs, rfl⟩ := isT_tup tb
        obtain ⟨cs, rfl⟩ := isT_tup tc
        obtain ⟨ds, rfl⟩ := isT_tup td
        have ha := good_tup ga
        have hb := good_tup gb
        have hc := good_tup gc
        have hd := good_tup gd
        have dall := dpt_tup (n := 59) dp
        simp only [List.mem_cons, List.not_mem_nil, or_false, forall_eq_or_imp, forall_eq] at dall
        obtain ⟨da, db, dc, dd⟩ := dall
        have da := dpt_tup (n := 58) da
        have dc := dpt_tup (n := 58) dc
        have dd := dpt_tup (n := 58) dd
        have fit : ∀ {p : D → Bool} {ys : List D}, ys.length ≤ 20000 → (ys.filter p).length ≤ 20000 := fun {p ys} z => Nat.le_trans (List.length_filter_le p ys) z
        have C1 : lComp [2] (iOf (e2 gIx (eP 0) (eC (.int 0)))) (bName 2) (tNotJ (tTru (eCall f__law_is_source (aC (eV 2) aN)))) (eV 2) [.d (.tup [.tup as, .tup bs, .tup cs, .tup ds]), .un, .un] S = some (as.filter fun x => !isSource x, S) :=
          filt_comp _ rfl ha.1 (by simp) fun x m => vl_source x (ha.2 x m) (by have := da x m; omega) S
        have C2 : ∀ z, lComp [2] (iOf (e2 gIx (eP 0) (eC (.int 1)))) (bName 2) (tNotJ (tTru (eCall f__law_is_party (aC (eV 2) aN)))) (eV 2) [.d (.tup [.tup as, .tup bs, .tup cs, .tup ds]), .own z, .un] S = some (bs.filter fun x => !isParty x, S) := fun z =>
          filt_comp _ rfl hb.1 (by simp) fun x m => vl_party x (hb.2 x m) S
        have C3 : ∀ z, lComp [2] (iOf (e2 gIx (eP 0) (eC (.int 2)))) (bName 2) (tNotJ (tTru (eCall f__law_is_pair (aC (eV 2) aN)))) (eV 2) [.d (.tup [.tup as, .tup bs, .tup cs, .tup ds]), .own z, .un] S = some (cs.filter fun x => !isFact x, S) := fun z =>
          filt_comp _ rfl hc.1 (by simp) fun x m => vl_pair x (hc.2 x m) (by have := dc x m; omega) S
        have C4 : ∀ z, lComp [2] (iOf (e2 gIx (eP 0) (eC (.int 3)))) (bName 2) (tNotJ (tTru (eCall f__law_is_build (aC (eV 2) aN)))) (eV 2) [.d (.tup [.tup as, .tup bs, .tup cs, .tup ds]), .own z, .un] S = some (ds.filter fun x => !isBuild x, S) := fun z =>
          filt_comp _ rfl hd.1 (by simp) fun x m => vl_build x (hd.2 x m) (by have := dd x m; omega) S
        have l1 := fit (p := fun x => !isSource x) ha.1
        have l2' := fit (p := fun x => !isParty x) hb.1
        have l3 := fit (p := fun x => !isFact x) hc.1
        have l4 := fit (p := fun x => !isBuild x) hd.1
        have s2 : (as.filter fun x => !isSource x).length + (bs.filter fun x => !isParty x).length ≤ sizeLine := by rw [sizeLine_eq]; omega
        have s3 : ((as.filter fun x => !isSource x) ++ (bs.filter fun x => !isParty x)).length + (cs.filter fun x => !isFact x).length ≤ sizeLine := by rw [sizeLine_eq, List.length_append]; omega
        have s4 : ((as.filter fun x => !isSource x) ++ (bs.filter fun x => !isParty x) ++ (cs.filter fun x => !isFact x)).length + (ds.filter fun x => !isBuild x).length ≤ sizeLine := by rw [sizeLine_eq, List.length_append, List.length_append]; omega
        have E : ((((as.filter fun x => !isSource x) ++ (bs.filter fun x => !isParty x) ++ (cs.filter fun x => !isFact x) ++ (ds.filter fun x => !isBuild x)).length : Int) == 0) = ((as.all isSource && bs.all isParty) && (cs.all isFact && ds.all isBuild)) := by
          rw [Bool.eq_iff_iff, beq_iff_eq, Bool.and_eq_true, Bool.and_eq_true, Bool.and_eq_true, ← filter_len, ← filter_len, ← filter_len, ← filter_len, List.length_append, List.length_append, List.length_append]
          omega
        unfold f__law_is_book g__law_is_book isBook
        simp only [runDef, sSeq, sNil, sRet, sIf, sSet, sSetL, sExt, sApp, sPar, sFreeze, sDrop, eC, eV, eP, e1, e2, l2, eL, aN, aC, aG, aGL, tOf, tAndJ, tOrJ, tNotJ, eAnd, eOr, eNot, eIf, eCh, tTru, gTru, eTup, lDisp, iOf, J.items?, iRg1, iRg2, cYes, bName, bTup, bCons, bNil, mN, mD, mO, setsS, eCall, gIsi, gIsi2, isT_tt, gLen, gI0, gLe_i, gGe_i, gGt_i, gLt_i, gAdd_i,  gListL, gTuple, eSl, oN, oS, List.map_cons, List.map_nil, List.map, List.replicate, List.length_cons, List.length_nil, List.nil_append, List.cons_append, List.append_nil, List.set_cons_zero, List.set_cons_succ, List.set, List.length, List.getElem?_cons_zero, List.getElem?_cons_succ, Nat.sub, Nat.reduceSub, Nat.reduceAdd, Nat.reduceLT, Nat.reduceLeDiff, List.getElem?_nil, Bool.false_eq_true, if_true, if_false, Bool.true_and, Bool.false_and, Bool.and_true, Bool.and_false, Bool.not_true, Bool.not_false, wipeE, N4, C1, C2, C3, C4, if_pos s2, if_pos s3, if_pos s4, gEq_i, E]
    · rw [isBook_no h]
      rw [beq_eq_false_iff_ne.mpr h, Bool.false_and] at N4
      unfold f__law_is_book g__law_is_book
      simp only [runDef, sSeq, sNil, sRet, sIf, sSet, sSetL, sExt, sApp, sPar, sFreeze, sDrop, eC, eV, eP, e1, e2, l2, eL, aN, aC, aG, aGL, tOf, tAndJ, tOrJ, tNotJ, eAnd, eOr, eNot, eIf, eCh, tTru, gTru, eTup, lDisp, iOf, J.items?, iRg1, iRg2, cYes, bName, bTup, bCons, bNil, mN, mD, mO, setsS, eCall, gIsi, gIsi2, isT_tt, gLen, gI0, gLe_i, gGe_i, gGt_i, gLt_i, gAdd_i,  gListL, gTuple, eSl, oN, oS, List.map_cons, List.map_nil, List.map, List.replicate, List.length_cons, List.length_nil, List.nil_append, List.cons_append, List.append_nil, List.set_cons_zero, List.set_cons_succ, List.set, List.length, List.getElem?_cons_zero, List.getElem?_cons_succ, Nat.sub, Nat.reduceSub, Nat.reduceAdd, Nat.reduceLT, Nat.reduceLeDiff, List.getElem?_nil, Bool.false_eq_true, if_true, if_false, Bool.true_and, Bool.false_and, Bool.and_true, Bool.and_false, Bool.not_true, Bool.not_false, wipeE, N4]
  | _ => rfl
theorem gEq_b (b : Bool) : gEq true (.bl b) (.bl b) = some (.bl false) := by cases b <;> rfl
theorem pairs_none {S : Store} {r0 : D} (ps : List Bool) (hz : ps.length ≤ 20000) (q : D) : lComp [4, 3] (iOf (eP 2)) (bTup 2 (bCons (bName 4) (bCons (bName 3) bNil))) (tOrJ (tNotJ (tTru (e1 (gIsi .bool) (eP 4)))) (tOf (e2 (gEq true) (eP 4) (eP 3)))) (eV 3) [.d q, .d r0, .own (ps.map fun b => .tup [.bl b, .bl b]), .un, .un] S = some ([], S) := by
  have go : ∀ (ps : List Bool) (ρ : J.Env), (∃ a b c d e, ρ = [a, b, c, d, e]) → lcGo (bTup 2 (bCons (bName 4) (bCons (bName 3) bNil))) (tOrJ (tNotJ (tTru (e1 (gIsi .bool) (eP 4)))) (tOf (e2 (gEq true) (eP 4) (eP 3)))) (eV 3) ρ (ps.map fun b => .tup [.bl b, .bl b]) S = some ([], S) := by
    intro ps
    induction ps with
    | nil => intro _ _; rfl
    | cons b r ih =>
      rintro _ ⟨a, b', c, d, e, rfl⟩
      rw [List.map_cons, lcGo]
      simp only [runDef, sSeq, sNil, sRet, sIf, sSet, sSetL, sExt, sApp, sPar, sFreeze, sDrop, eC, eV, eP, e1, e2, l2, eL, aN, aC, aG, aGL, tOf, tAndJ, tOrJ, tNotJ, eAnd, eOr, eNot, eIf, eCh, tTru, gTru, eTup, lDisp, iOf, J.items?, iRg1, iRg2, cYes, bName, bTup, bCons, bNil, mN, mD, mO, setsS, eCall, gIsi, gIsi2, isT_tt, gLen, gI0, gLe_i, gGe_i, gGt_i, gLt_i, gAdd_i,  gListL, gTuple, eSl, oN, oS, List.map_cons, List.map_nil, List.map, List.replicate, List.length_cons, List.length_nil, List.nil_append, List.cons_append, List.append_nil, List.set_cons_zero, List.set_cons_succ, List.set, List.length, List.getElem?_cons_zero, List.getElem?_cons_succ, Nat.sub, Nat.reduceSub, Nat.reduceAdd, Nat.reduceLT, Nat.reduceLeDiff, List.getElem?_nil, Bool.false_eq_true, if_true, if_false, Bool.true_and, Bool.false_and, Bool.and_true, Bool.and_false, Bool.not_true, Bool.not_false, wipeE, gEq_b, show isT .bool (.bl b) = true from rfl]
      exact ih _ ⟨_, _, _, _, _, rfl⟩
  unfold lComp
  simp only [iOf, eP, List.getElem?_cons_zero, List.getElem?_cons_succ, J.items?]
  rw [go ps (wipeE [.d q, .d r0, .own (ps.map fun b => .tup [.bl b, .bl b]), .un, .un] [4, 3]) ⟨_, _, _, _, _, rfl⟩]
  exact if_pos (Nat.zero_le _)
theorem sz {k : Nat} (h : k ≤ 16777216 := by decide) : k ≤ sizeLine := by rw [sizeLine_eq]; exact h
theorem sz' {k : Nat} (h : k < 16777216 := by decide) : k < sizeLine := by rw [sizeLine_eq]; exact h
theorem gEq_nn : gEq false (.lst []) (.lst []) = some (.bl true) := rfl
theorem v_right (d : D) (g : good d = true) (dp : dpt d ≤ 60) (S : Store) : f__law_right [d] S = some (.bl true, S) := by
  have E : f_is_integer [d] S = some (.bl (isT .int d && !isT .bool d), S) := v_integer d S
  have E2 : ∀ ρ : J.Env, ρ[0]? = some (.d d) → eAnd (e1 (gIsi .int) (eP 0)) (eNot (e1 (gIsi .bool) (eP 0))) ρ S = some (.bl (isT .int d && !isT .bool d), S) := fun ρ h => by
    cases q : isT .int d <;> simp only [eAnd, e1, gIsi, eP, eNot, h, q, Bool.true_and, Bool.false_and]
  have N : f_is_number [d] S = some (.bl (match d with | .int i => decide (0 ≤ i) | _ => false), S) := v_number d S
  generalize hb1 : (isT .int d && !isT .bool d) = b1 at E E2
  generalize hb2 : (match d with | .int i => decide (0 ≤ i) | _ => false) = b2 at N
  have P := pairs_none (S := S) (r0 := .bl b1) [b1, b2, isName d, isSet d, isSource d, isParty d, isBuild d, isFact d, isBook d] (by simp) d
  simp only [List.map_cons, List.map_nil] at P
  unfold f__law_right g__law_right
  simp only [runDef, sSeq, sSet, List.map_cons, List.map_nil, List.length_cons, List.length_nil, Nat.reduceSub, Nat.reduceAdd, List.replicate, List.cons_append, List.nil_append]
  rw [E2 _ rfl]
  simp only [runDef, sSeq, sNil, sRet, sIf, sSet, sSetL, sExt, sApp, sPar, sFreeze, sDrop, eC, eV, eP, e1, e2, l2, eL, aN, aC, aG, aGL, tOf, tAndJ, tOrJ, tNotJ, eAnd, eOr, eNot, eIf, eCh, tTru, gTru, eTup, lDisp, iOf, J.items?, iRg1, iRg2, cYes, bName, bTup, bCons, bNil, mN, mD, mO, setsS, eCall, gIsi, gIsi2, isT_tt, gLen, gI0, gLe_i, gGe_i, gGt_i, gLt_i, gAdd_i,  gListL, gTuple, eSl, oN, oS, List.map_cons, List.map_nil, List.map, List.replicate, List.length_cons, List.length_nil, List.nil_append, List.cons_append, List.append_nil, List.set_cons_zero, List.set_cons_succ, List.set, List.length, List.getElem?_cons_zero, List.getElem?_cons_succ, Nat.sub, Nat.reduceSub, Nat.reduceAdd, Nat.reduceLT, Nat.reduceLeDiff, List.getElem?_nil, Bool.false_eq_true, if_true, if_false, Bool.true_and, Bool.false_and, Bool.and_true, Bool.and_false, Bool.not_true, Bool.not_false, wipeE, E, N, vl_number, v_name d g, vl_name d g, v_set d g, vl_set d g (show dpt d ≤ 64 by omega), v_source d g, vl_source d g (show dpt d ≤ 63 by omega), v_party d g, vl_party d g, v_build d g (show dpt d ≤ 62 by omega), vl_build d g (show dpt d ≤ 62 by omega), v_fact d g, vl_pair d g (show dpt d ≤ 64 by omega), v_book d g dp, vl_book d g dp, if_pos (sz (k := 0)), if_pos (sz (k := 1)), if_pos (sz (k := 2)), if_pos (sz (k := 4)), if_pos (sz (k := 6)), if_pos (sz (k := 8)), if_pos (sz' (k := 8)), P, gEq_nn]
end K1

set_option maxHeartbeats 4000000
namespace K1
open PySem PySem.Spec PyProof.Rows L2 J
/-! ### the feed -/
def ob (cs : List Int) (a b c : Int) : Ob := [("cells", .lst (cs.map D.int)), ("next", .int a), ("left", .int b), ("count", .int c)]
theorem og1 (cs : List Int) (a b c : Int) : obGet (ob cs a b c) "cells" = some (.lst (cs.map D.int)) := rfl
theorem og2 (cs : List Int) (a b c : Int) : obGet (ob cs a b c) "next" = some (.int a) := rfl
theorem og3 (cs : List Int) (a b c : Int) : obGet (ob cs a b c) "left" = some (.int b) := rfl
theorem og4 (cs : List Int) (a b c : Int) : obGet (ob cs a b c) "count" = some (.int c) := rfl
theorem op2 (cs : List Int) (a b c x : Int) : obPut (ob cs a b c) "next" (.int x) = ob cs x b c := rfl
theorem op3 (cs : List Int) (a b c x : Int) : obPut (ob cs a b c) "left" (.int x) = ob cs a x c := rfl
theorem op4 (cs : List Int) (a b c x : Int) : obPut (ob cs a b c) "count" (.int x) = ob cs a b x := rfl
theorem ol (cs : List Int) (a b c : Int) : (ob cs a b c).length < sizeLine := by show 4 < sizeLine; exact sz'
def Fd (B : Int) (S : Store) : Prop := ∃ (cs : List Int) (a b c : Int), S = [ob cs a b c] ∧ cs.length ≤ 63 ∧ 0 ≤ a ∧ 0 ≤ c ∧ c ≤ B
theorem Fd.mono {B B' : Int} {S : Store} (h : Fd B S) (l : B ≤ B') : Fd B' S := by
  obtain ⟨cs, a, b, c, e, h1, h2, h3, h4⟩ := h
  exact ⟨cs, a, b, c, e, h1, h2, h3, by omega⟩
theorem get_at {n : Nat} {S : Store} {o : Ob} {m : Str} {d : D} {ρ : J.Env} (h0 : ρ[0]? = some (.d (.obj n))) (h : S[n]? = some o) (e : obGet o m = some d) : eGet (eP 0) (eC (.str m)) ρ S = some (d, S) := by
  unfold eGet; simp only [eP, h0, eC, h, e]
theorem put_at {S : Store} {o o' : Ob} {m : Str} {x : D} {fv : EX} {ρ : J.Env} (hf : fv ρ S = some (x, [o])) (h0 : ρ[0]? = some (.d (.obj 0))) (hl : o.length < sizeLine) (e : obPut o m x = o') : sPut (eP 0) (eC (.str m)) fv ρ S = some (.nx ρ, [o']) := by
  unfold sPut; simp only [hf, eP, h0, eC, List.getElem?_cons_zero, if_pos hl, e, List.set]
theorem mod_i {i j : Int} (h : 0 < j) : gI CPos (fun i j => i % j) (.int i) (.int j) = some (.int (i % j)) := if_pos h
theorem div_i {i j : Int} (h : 0 < j) (hj : j.natAbs.log2 < 9000) : gI CDivW (fun i j => i / j) (.int i) (.int j) = some (.int (i / j)) := if_pos ⟨h, hj⟩
theorem mul_i {i j : Int} (h : i.natAbs.log2 + j.natAbs.log2 < 1000000) : gI CMulW (fun i j => i * j) (.int i) (.int j) = some (.int (i * j)) := if_pos h
theorem log2_lt {i : Int} {k : Nat} (h : 0 ≤ i) (h2 : i < 2 ^ k) (hk : 0 < k) : i.natAbs.log2 < k := by
  by_cases z : i.natAbs = 0
  · rw [z]; simpa using hk
  · refine (Nat.log2_lt z).mpr ?_
    have e : (2 : Int) ^ k = ((2 ^ k : Nat) : Int) := by simp
    rw [e] at h2
    omega
theorem gInt_i (i : Int) : gInt [.int i] = some (.int i) := rfl
theorem ints_good (cs : List Int) : goods (cs.map D.int) = true := (goods_all _).mpr fun x m => by
  obtain ⟨i, _, rfl⟩ := List.mem_map.mp m; rfl
theorem ints_dpt (cs : List Int) : dpts (cs.map D.int) ≤ 63 := (dpts_le _).mpr fun x m => by
  obtain ⟨i, _, rfl⟩ := List.mem_map.mp m; exact Nat.zero_le _
theorem pow18 : gI CPow (fun i j => i ^ j.toNat) (.int 10) (.int 18) = some (.int (10 ^ 18)) := rfl
/-- the end of a draw: three times mixed -/
theorem mix_ok {cs : List Int} {a b c m cell : Int} (hm : 0 < m) (hc0 : 0 ≤ c) (hc : c ≤ 1000000000) (y2 y3 y4 : Slot) :
    ∃ v, 0 ≤ v ∧ v < m ∧ (sSeq (sSet (e2 (gI CPos fun i j => i % j) (aG gInt (aC (e2 gAdd (e2 gAdd (e2 (gI CPos fun i j => i % j) (aG gInt (aC (eP 5) aN)) (eC (.int 2147483629))) (e2 (gI CMulW fun i j => i * j) (eC (.int 48271)) (eGet (eP 0) (eC (.str ("count" : Str)))))) (eC (.int 11))) aN)) (eC (.int 2147483587))) (bName 6)) (sSeq (sSet (e2 (gI CPos fun i j => i % j) (aG gInt (aC (e2 gAdd (e2 gAdd (e2 (gI CMulW fun i j => i * j) (eP 6) (eP 6)) (e2 (gI CMulW fun i j => i * j) (eC (.int 69621)) (eGet (eP 0) (eC (.str ("count" : Str)))))) (eC (.int 5))) aN)) (eC (.int 2147483563))) (bName 6)) (sSeq (sSet (e2 (gI CPos fun i j => i % j) (aG gInt (aC (e2 gAdd (e2 (gI CMulW fun i j => i * j) (eP 6) (eP 6)) (e2 (gI CMulW fun i j => i * j) (eC (.int 40692)) (eP 6))) aN)) (eC (.int 2147483549))) (bName 6)) (sRet (e2 (gI CPos fun i j => i % j) (aG gInt (aC (e2 (gI CDivW fun i j => i / j) (eP 6) (eC (.int 64))) aN)) (eP 1))))))
      [.d (.obj 0), .d (.int m), y2, y3, y4, .d (.int cell), .un] [ob cs a b c] = some (.rt (.int v), [ob cs a b c]) := by
  have G : ∀ ρ : J.Env, ρ[0]? = some (.d (.obj 0)) → eGet (eP 0) (eC (.str ("count" : Str))) ρ [ob cs a b c] = some (.int c, [ob cs a b c]) := fun ρ h => get_at h rfl (og4 cs a b c)
  have lc : c.natAbs.log2 < 30 := log2_lt hc0 (by omega) (by decide)
  generalize hx1 : (cell % 2147483629 + 48271 * c + 11) % 2147483587 = x1
  have p1 : 0 ≤ x1 := by rw [← hx1]; exact Int.emod_nonneg _ (by decide)
  have q1 : x1 < 2147483587 := by rw [← hx1]; exact Int.emod_lt_of_pos _ (by decide)
  generalize hx2 : (x1 * x1 + 69621 * c + 5) % 2147483563 = x2
  have p2 : 0 ≤ x2 := by rw [← hx2]; exact Int.emod_nonneg _ (by decide)
  have q2 : x2 < 2147483563 := by rw [← hx2]; exact Int.emod_lt_of_pos _ (by decide)
  generalize hx3 : (x2 * x2 + 40692 * x2) % 2147483549 = x3
  have l1 : x1.natAbs.log2 < 31 := log2_lt p1 (by omega) (by decide)
  have l2 : x2.natAbs.log2 < 31 := log2_lt p2 (by omega) (by decide)
  have k1 : (48271 : Int).natAbs.log2 < 30 := by decide
  have k2 : (69621 : Int).natAbs.log2 < 30 := by decide
  have k3 : (40692 : Int).natAbs.log2 < 30 := by decide
  refine ⟨x3 / 64 % m, Int.emod_nonneg _ (by omega), Int.emod_lt_of_pos _ hm, ?_⟩
  simp only [runDef, sSeq, sNil, sRet, sIf, sSet, sSetL, sExt, sApp, sPar, sFreeze, sDrop, eC, eV, eP, e1, e2, l2, eL, aN, aC, aG, aGL, tOf, tAndJ, tOrJ, tNotJ, eAnd, eOr, eNot, eIf, eCh, tTru, gTru, eTup, lDisp, iOf, J.items?, iRg1, iRg2, cYes, bName, bTup, bCons, bNil, mN, mD, mO, setsS, eCall, gIsi, gIsi2, isT_tt, gLen, gI0, gLe_i, gGe_i, gGt_i, gLt_i, gAdd_i,  gListL, gTuple, eSl, oN, oS, List.map_cons, List.map_nil, List.map, List.replicate, List.length_cons, List.length_nil, List.nil_append, List.cons_append, List.append_nil, List.set_cons_zero, List.set_cons_succ, List.set, List.length, List.getElem?_cons_zero, List.getElem?_cons_succ, Nat.sub, Nat.reduceSub, Nat.reduceAdd, Nat.reduceLT, Nat.reduceLeDiff, List.getElem?_nil, Bool.false_eq_true, if_true, if_false, Bool.true_and, Bool.false_and, Bool.and_true, Bool.and_false, Bool.not_true, Bool.not_false, wipeE, G, gInt_i, mod_i (show (0 : Int) < 2147483629 by decide), mod_i (show (0 : Int) < 2147483587 by decide), mod_i (show (0 : Int) < 2147483563 by decide), mod_i (show (0 : Int) < 2147483549 by decide), mod_i hm, mul_i (show (48271 : Int).natAbs.log2 + c.natAbs.log2 < 1000000 by omega), mul_i (show (69621 : Int).natAbs.log2 + c.natAbs.log2 < 1000000 by omega), hx1, mul_i (show x1.natAbs.log2 + x1.natAbs.log2 < 1000000 by omega), hx2, mul_i (show x2.natAbs.log2 + x2.natAbs.log2 < 1000000 by omega), mul_i (show (40692 : Int).natAbs.log2 + x2.natAbs.log2 < 1000000 by omega), hx3, div_i (show (0 : Int) < 64 by decide) (show (64 : Int).natAbs.log2 < 9000 by decide)]
theorem set_at {f : EX} {i : Nat} {ρ : J.Env} {S S1 : Store} {x : D} (h : f ρ S = some (x, S1)) : sSet f (bName i) ρ S = some (.nx (ρ.set i (.d x)), S1) := by
  unfold sSet; rw [h]; rfl
theorem seq_rt {g1 g2 : GS} {ρ : J.Env} {S S1 : Store} {d : D} (h : g1 ρ S = some (.rt d, S1)) : sSeq g1 g2 ρ S = some (.rt d, S1) := by
  unfold sSeq; rw [h]
theorem draw_ok {B m : Int} {S : Store} (F : Fd B S) (hB : B < 1000000000) (hm : 0 < m) (hl : m.natAbs.log2 < 9000) : ∃ v S', f__law_draw [.obj 0, .int m] S = some (.int v, S') ∧ 0 ≤ v ∧ v < m ∧ Fd (B + 1) S' := by
  obtain ⟨cs, a, b, c, rfl, hcs, ha, hc0, hcB⟩ := F
  have M0 : ∀ i : Int, 0 ≤ i % m := fun i => Int.emod_nonneg _ (by omega)
  have M1 : ∀ i : Int, i % m < m := fun i => Int.emod_lt_of_pos _ hm
  have G2 : ∀ {a b c : Int} (ρ : J.Env), ρ[0]? = some (.d (.obj 0)) → eGet (eP 0) (eC (.str ("next" : Str))) ρ [ob cs a b c] = some (.int a, [ob cs a b c]) := fun ρ h => get_at h rfl (og2 ..)
  have G1 : ∀ {a b c : Int} (ρ : J.Env), ρ[0]? = some (.d (.obj 0)) → eGet (eP 0) (eC (.str ("cells" : Str))) ρ [ob cs a b c] = some (.lst (cs.map D.int), [ob cs a b c]) := fun ρ h => get_at h rfl (og1 ..)
  have G3 : ∀ {a b c : Int} (ρ : J.Env), ρ[0]? = some (.d (.obj 0)) → eGet (eP 0) (eC (.str ("left" : Str))) ρ [ob cs a b c] = some (.int b, [ob cs a b c]) := fun ρ h => get_at h rfl (og3 ..)
  have G4 : ∀ {a b c : Int} (ρ : J.Env), ρ[0]? = some (.d (.obj 0)) → eGet (eP 0) (eC (.str ("count" : Str))) ρ [ob cs a b c] = some (.int c, [ob cs a b c]) := fun ρ h => get_at h rfl (og4 ..)
  have U4 : ∀ ρ : J.Env, ρ[0]? = some (.d (.obj 0)) → sPut (eP 0) (eC (.str ("count" : Str))) (e2 gAdd (eGet (eP 0) (eC (.str ("count" : Str)))) (eC (.int 1))) ρ [ob cs a b c] = some (.nx ρ, [ob cs a b (c + 1)]) := fun ρ h =>
    put_at (e2_at (G4 ρ h) rfl (gAdd_i c 1)) h (ol ..) (op4 ..)
  have ML := mod_i (i := b) hm
  have DL := div_i (i := b) hm hl
  have U3 : ∀ ρ : J.Env, ρ[0]? = some (.d (.obj 0)) → ρ[1]? = some (.d (.int m)) → sPut (eP 0) (eC (.str ("left" : Str))) (e2 (gI CDivW fun i j => i / j) (eGet (eP 0) (eC (.str ("left" : Str)))) (eP 1)) ρ [ob cs a b (c + 1)] = some (.nx ρ, [ob cs a (b / m) (c + 1)]) := fun ρ h h1 =>
    put_at (e2_at (G3 ρ h) (by simp only [eP, h1]; rfl) DL) h (ol ..) (op3 ..)
  have U2 : ∀ ρ : J.Env, ρ[0]? = some (.d (.obj 0)) → ρ[4]? = some (.d (.int a)) → sPut (eP 0) (eC (.str ("next" : Str))) (e2 gAdd (eP 4) (eC (.int 1))) ρ [ob cs a b (c + 1)] = some (.nx ρ, [ob cs (a + 1) b (c + 1)]) := fun ρ h h1 =>
    put_at (e2_at (by simp only [eP, h1]; rfl) rfl (gAdd_i a 1)) h (ol ..) (op2 ..)
  unfold f__law_draw g__law_draw
  by_cases hb : 0 < b
  · refine ⟨b % m, [ob cs a (b / m) (c + 1)], ?_, M0 b, M1 b, cs, a, b / m, c + 1, rfl, hcs, ha, by omega, by omega⟩
    simp only [runDef, sSeq, sNil, sRet, sIf, sSet, sSetL, sExt, sApp, sPar, sFreeze, sDrop, eC, eV, eP, e1, e2, l2, eL, aN, aC, aG, aGL, tOf, tAndJ, tOrJ, tNotJ, eAnd, eOr, eNot, eIf, eCh, tTru, gTru, eTup, lDisp, iOf, J.items?, iRg1, iRg2, cYes, bName, bTup, bCons, bNil, mN, mD, mO, setsS, eCall, gIsi, gIsi2, isT_tt, gLen, gI0, gLe_i, gGe_i, gGt_i, gLt_i, gAdd_i,  gListL, gTuple, eSl, oN, oS, List.map_cons, List.map_nil, List.map, List.replicate, List.length_cons, List.length_nil, List.nil_append, List.cons_append, List.append_nil, List.set_cons_zero, List.set_cons_succ, List.set, List.length, List.getElem?_cons_zero, List.getElem?_cons_succ, Nat.sub, Nat.reduceSub, Nat.reduceAdd, Nat.reduceLT, Nat.reduceLeDiff, List.getElem?_nil, Bool.false_eq_true, if_true, if_false, Bool.true_and, Bool.false_and, Bool.and_true, Bool.and_false, Bool.not_true, Bool.not_false, wipeE, U4, G3, decide_eq_true hb, gInt_i, ML, U3]
  · have N := gEq_nil (neg := true) (ints_good cs) (ints_dpt cs)
    -- the cell
    have cell : ∃ x, eIf (tOf (e2 (gEq true) (eP 3) (eL (lDisp aN)))) (e2 gIx (eP 3) (e2 (gI CPos fun i j => i % j) (aG gInt (aC (eP 4) aN)) (aG gLen (aC (eP 3) aN)))) (eC (.int 31847)) [.d (.obj 0), .d (.int m), .un, .d (.lst (cs.map D.int)), .d (.int a), .un, .un] [ob cs (a + 1) b (c + 1)] = some (.int x, [ob cs (a + 1) b (c + 1)]) := by
      cases cs with
      | nil =>
        simp only [List.map_nil, List.isEmpty, Bool.not_true, if_true] at N
        exact ⟨31847, by simp only [runDef, sSeq, sNil, sRet, sIf, sSet, sSetL, sExt, sApp, sPar, sFreeze, sDrop, eC, eV, eP, e1, e2, l2, eL, aN, aC, aG, aGL, tOf, tAndJ, tOrJ, tNotJ, eAnd, eOr, eNot, eIf, eCh, tTru, gTru, eTup, lDisp, iOf, J.items?, iRg1, iRg2, cYes, bName, bTup, bCons, bNil, mN, mD, mO, setsS, eCall, gIsi, gIsi2, isT_tt, gLen, gI0, gLe_i, gGe_i, gGt_i, gLt_i, gAdd_i,  gListL, gTuple, eSl, oN, oS, List.map_cons, List.map_nil, List.map, List.replicate, List.length_cons, List.length_nil, List.nil_append, List.cons_append, List.append_nil, List.set_cons_zero, List.set_cons_succ, List.set, List.length, List.getElem?_cons_zero, List.getElem?_cons_succ, Nat.sub, Nat.reduceSub, Nat.reduceAdd, Nat.reduceLT, Nat.reduceLeDiff, List.getElem?_nil, Bool.false_eq_true, if_true, if_false, Bool.true_and, Bool.false_and, Bool.and_true, Bool.and_false, Bool.not_true, Bool.not_false, wipeE, N, if_pos (sz (k := 0))]⟩
      | cons z r =>
        have hn : (0 : Int) < ((r.map D.int).length + 1 : Nat) := by omega
        have h0 := Int.emod_nonneg a (show (((r.map D.int).length + 1 : Nat) : Int) ≠ 0 by omega)
        have h1 := Int.emod_lt_of_pos a hn
        have I : ∃ x, gIx (.lst (.int z :: r.map D.int)) (.int (a % (((r.map D.int).length + 1 : Nat) : Int))) = some (.int x) := by
          obtain ⟨k, hk⟩ : ∃ k : Nat, a % (((r.map D.int).length + 1 : Nat) : Int) = (k : Int) := ⟨_, (Int.toNat_of_nonneg h0).symm⟩
          rw [hk] at h1 ⊢
          have hk2 : k < (z :: r).length := by rw [List.length_cons]; rw [List.length_map] at h1; omega
          refine ⟨(z :: r)[k], ?_⟩
          show atI ((z :: r).map D.int) (k : Int) = _
          rw [atI_nat, List.getElem?_map, List.getElem?_eq_getElem hk2]; rfl
        obtain ⟨x, I⟩ := I
        simp only [List.map_cons, List.isEmpty, Bool.not_false, if_true] at N
        exact ⟨x, by simp only [runDef, sSeq, sNil, sRet, sIf, sSet, sSetL, sExt, sApp, sPar, sFreeze, sDrop, eC, eV, eP, e1, e2, l2, eL, aN, aC, aG, aGL, tOf, tAndJ, tOrJ, tNotJ, eAnd, eOr, eNot, eIf, eCh, tTru, gTru, eTup, lDisp, iOf, J.items?, iRg1, iRg2, cYes, bName, bTup, bCons, bNil, mN, mD, mO, setsS, eCall, gIsi, gIsi2, isT_tt, gLen, gI0, gLe_i, gGe_i, gGt_i, gLt_i, gAdd_i,  gListL, gTuple, eSl, oN, oS, List.map_cons, List.map_nil, List.map, List.replicate, List.length_cons, List.length_nil, List.nil_append, List.cons_append, List.append_nil, List.set_cons_zero, List.set_cons_succ, List.set, List.length, List.getElem?_cons_zero, List.getElem?_cons_succ, Nat.sub, Nat.reduceSub, Nat.reduceAdd, Nat.reduceLT, Nat.reduceLeDiff, List.getElem?_nil, Bool.false_eq_true, if_true, if_false, Bool.true_and, Bool.false_and, Bool.and_true, Bool.and_false, Bool.not_true, Bool.not_false, wipeE, N, if_pos (sz (k := 0)), gInt_i, mod_i hn, I]⟩
    obtain ⟨x, cell⟩ := cell
    have T1 := U4 [.d (.obj 0), .d (.int m), .un, .un, .un, .un, .un] rfl
    have T2 : ∀ g, sIf (tOf (e2 gGt (eGet (eP 0) (eC (.str ("left" : Str)))) (eC (.int 0)))) g sNil [.d (.obj 0), .d (.int m), .un, .un, .un, .un, .un] [ob cs a b (c + 1)] = some (.nx [.d (.obj 0), .d (.int m), .un, .un, .un, .un, .un], [ob cs a b (c + 1)]) := fun g => by
      simp only [runDef, sSeq, sNil, sRet, sIf, sSet, sSetL, sExt, sApp, sPar, sFreeze, sDrop, eC, eV, eP, e1, e2, l2, eL, aN, aC, aG, aGL, tOf, tAndJ, tOrJ, tNotJ, eAnd, eOr, eNot, eIf, eCh, tTru, gTru, eTup, lDisp, iOf, J.items?, iRg1, iRg2, cYes, bName, bTup, bCons, bNil, mN, mD, mO, setsS, eCall, gIsi, gIsi2, isT_tt, gLen, gI0, gLe_i, gGe_i, gGt_i, gLt_i, gAdd_i,  gListL, gTuple, eSl, oN, oS, List.map_cons, List.map_nil, List.map, List.replicate, List.length_cons, List.length_nil, List.nil_append, List.cons_append, List.append_nil, List.set_cons_zero, List.set_cons_succ, List.set, List.length, List.getElem?_cons_zero, List.getElem?_cons_succ, Nat.sub, Nat.reduceSub, Nat.reduceAdd, Nat.reduceLT, Nat.reduceLeDiff, List.getElem?_nil, Bool.false_eq_true, if_true, if_false, Bool.true_and, Bool.false_and, Bool.and_true, Bool.and_false, Bool.not_true, Bool.not_false, wipeE, G3, decide_eq_false hb]
    have T3 : (sPar [3, 4] (mD (eGet (eP 0) (eC (.str ("cells" : Str)))) (mD (eGet (eP 0) (eC (.str ("next" : Str)))) mN))) [.d (.obj 0), .d (.int m), .un, .un, .un, .un, .un] [ob cs a b (c + 1)] = some (.nx [.d (.obj 0), .d (.int m), .un, .d (.lst (cs.map D.int)), .d (.int a), .un, .un], [ob cs a b (c + 1)]) := by
      simp only [runDef, sSeq, sNil, sRet, sIf, sSet, sSetL, sExt, sApp, sPar, sFreeze, sDrop, eC, eV, eP, e1, e2, l2, eL, aN, aC, aG, aGL, tOf, tAndJ, tOrJ, tNotJ, eAnd, eOr, eNot, eIf, eCh, tTru, gTru, eTup, lDisp, iOf, J.items?, iRg1, iRg2, cYes, bName, bTup, bCons, bNil, mN, mD, mO, setsS, eCall, gIsi, gIsi2, isT_tt, gLen, gI0, gLe_i, gGe_i, gGt_i, gLt_i, gAdd_i,  gListL, gTuple, eSl, oN, oS, List.map_cons, List.map_nil, List.map, List.replicate, List.length_cons, List.length_nil, List.nil_append, List.cons_append, List.append_nil, List.set_cons_zero, List.set_cons_succ, List.set, List.length, List.getElem?_cons_zero, List.getElem?_cons_succ, Nat.sub, Nat.reduceSub, Nat.reduceAdd, Nat.reduceLT, Nat.reduceLeDiff, List.getElem?_nil, Bool.false_eq_true, if_true, if_false, Bool.true_and, Bool.false_and, Bool.and_true, Bool.and_false, Bool.not_true, Bool.not_false, wipeE, G1, G2]
    have T4 := U2 [.d (.obj 0), .d (.int m), .un, .d (.lst (cs.map D.int)), .d (.int a), .un, .un] rfl rfl
    have T5 := set_at (i := 5) cell
    have way : ∀ g0 g, (∃ v S', g [.d (.obj 0), .d (.int m), .un, .d (.lst (cs.map D.int)), .d (.int a), .d (.int x), .un] [ob cs (a + 1) b (c + 1)] = some (.rt (.int v), S') ∧ 0 ≤ v ∧ v < m ∧ Fd (B + 1) S') → ∃ v S', runDef 7 (sSeq (sPut (eP 0) (eC (.str ("count" : Str))) (e2 gAdd (eGet (eP 0) (eC (.str ("count" : Str)))) (eC (.int 1)))) (sSeq (sIf (tOf (e2 gGt (eGet (eP 0) (eC (.str ("left" : Str)))) (eC (.int 0)))) g0 sNil) (sSeq _ (sSeq _ (sSeq _ g))))) [.obj 0, .int m] [ob cs a b c] = some (.int v, S') ∧ 0 ≤ v ∧ v < m ∧ Fd (B + 1) S' := fun g0 g ⟨v, S', e, r⟩ =>
      ⟨v, S', run_at ((seq_at T1).trans ((seq_at (T2 g0)).trans ((seq_at T3).trans ((seq_at T4).trans ((seq_at T5).trans e))))), r⟩
    refine way _ _ ?_
    by_cases hx : (10 : Int) ^ 18 ≤ x ∧ a < ((cs.map D.int).length : Int)
    · refine ⟨x % m, [ob cs (a + 1) (x / m) (c + 1)], ?_, M0 x, M1 x, cs, a + 1, x / m, c + 1, rfl, hcs, by omega, by omega, by omega⟩
      have U3' : ∀ ρ : J.Env, ρ[0]? = some (.d (.obj 0)) → ρ[1]? = some (.d (.int m)) → ρ[5]? = some (.d (.int x)) → sPut (eP 0) (eC (.str ("left" : Str))) (e2 (gI CDivW fun i j => i / j) (eP 5) (eP 1)) ρ [ob cs (a + 1) b (c + 1)] = some (.nx ρ, [ob cs (a + 1) (x / m) (c + 1)]) := fun ρ h h1 h5 =>
        put_at (e2_at (by simp only [eP, h5]; rfl) (by simp only [eP, h1]; rfl) (div_i (i := x) hm hl)) h (ol ..) (op3 ..)
      refine seq_rt ?_
      simp only [runDef, sSeq, sNil, sRet, sIf, sSet, sSetL, sExt, sApp, sPar, sFreeze, sDrop, eC, eV, eP, e1, e2, l2, eL, aN, aC, aG, aGL, tOf, tAndJ, tOrJ, tNotJ, eAnd, eOr, eNot, eIf, eCh, tTru, gTru, eTup, lDisp, iOf, J.items?, iRg1, iRg2, cYes, bName, bTup, bCons, bNil, mN, mD, mO, setsS, eCall, gIsi, gIsi2, isT_tt, gLen, gI0, gLe_i, gGe_i, gGt_i, gLt_i, gAdd_i,  gListL, gTuple, eSl, oN, oS, List.map_cons, List.map_nil, List.map, List.replicate, List.length_cons, List.length_nil, List.nil_append, List.cons_append, List.append_nil, List.set_cons_zero, List.set_cons_succ, List.set, List.length, List.getElem?_cons_zero, List.getElem?_cons_succ, Nat.sub, Nat.reduceSub, Nat.reduceAdd, Nat.reduceLT, Nat.reduceLeDiff, List.getElem?_nil, Bool.false_eq_true, if_true, if_false, Bool.true_and, Bool.false_and, Bool.and_true, Bool.and_false, Bool.not_true, Bool.not_false, wipeE, pow18, decide_eq_true hx.1, decide_eq_true hx.2, U3', gInt_i, mod_i hm]
    · obtain ⟨v, v0, v1, e⟩ := mix_ok (cs := cs) (a := a + 1) (b := b) (c := c + 1) (m := m) (cell := x) hm (by omega) (by omega) .un (.d (.lst (cs.map D.int))) (.d (.int a))
      refine ⟨v, [ob cs (a + 1) b (c + 1)], (seq_at ?_).trans e, v0, v1, cs, a + 1, b, c + 1, rfl, hcs, by omega, by omega, by omega⟩
      by_cases h1 : (10 : Int) ^ 18 ≤ x
      · have h2 : ¬ a < ((cs.map D.int).length : Int) := fun z => hx ⟨h1, z⟩
        simp only [runDef, sSeq, sNil, sRet, sIf, sSet, sSetL, sExt, sApp, sPar, sFreeze, sDrop, eC, eV, eP, e1, e2, l2, eL, aN, aC, aG, aGL, tOf, tAndJ, tOrJ, tNotJ, eAnd, eOr, eNot, eIf, eCh, tTru, gTru, eTup, lDisp, iOf, J.items?, iRg1, iRg2, cYes, bName, bTup, bCons, bNil, mN, mD, mO, setsS, eCall, gIsi, gIsi2, isT_tt, gLen, gI0, gLe_i, gGe_i, gGt_i, gLt_i, gAdd_i,  gListL, gTuple, eSl, oN, oS, List.map_cons, List.map_nil, List.map, List.replicate, List.length_cons, List.length_nil, List.nil_append, List.cons_append, List.append_nil, List.set_cons_zero, List.set_cons_succ, List.set, List.length, List.getElem?_cons_zero, List.getElem?_cons_succ, Nat.sub, Nat.reduceSub, Nat.reduceAdd, Nat.reduceLT, Nat.reduceLeDiff, List.getElem?_nil, Bool.false_eq_true, if_true, if_false, Bool.true_and, Bool.false_and, Bool.and_true, Bool.and_false, Bool.not_true, Bool.not_false, wipeE, pow18, decide_eq_true h1, decide_eq_false h2]
      · simp only [runDef, sSeq, sNil, sRet, sIf, sSet, sSetL, sExt, sApp, sPar, sFreeze, sDrop, eC, eV, eP, e1, e2, l2, eL, aN, aC, aG, aGL, tOf, tAndJ, tOrJ, tNotJ, eAnd, eOr, eNot, eIf, eCh, tTru, gTru, eTup, lDisp, iOf, J.items?, iRg1, iRg2, cYes, bName, bTup, bCons, bNil, mN, mD, mO, setsS, eCall, gIsi, gIsi2, isT_tt, gLen, gI0, gLe_i, gGe_i, gGt_i, gLt_i, gAdd_i,  gListL, gTuple, eSl, oN, oS, List.map_cons, List.map_nil, List.map, List.replicate, List.length_cons, List.length_nil, List.nil_append, List.cons_append, List.append_nil, List.set_cons_zero, List.set_cons_succ, List.set, List.length, List.getElem?_cons_zero, List.getElem?_cons_succ, Nat.sub, Nat.reduceSub, Nat.reduceAdd, Nat.reduceLT, Nat.reduceLeDiff, List.getElem?_nil, Bool.false_eq_true, if_true, if_false, Bool.true_and, Bool.false_and, Bool.and_true, Bool.and_false, Bool.not_true, Bool.not_false, wipeE, pow18, decide_eq_false h1]
end K1

set_option maxHeartbeats 4000000
namespace K1
open PySem PySem.Spec PyProof.Rows L2 J
/-! ### texts -/
def okS (n : Nat) (z : Str) : Prop := (∀ c ∈ z.cps.toList, c < 1114112) ∧ z.length ≤ n
theorem okS.mono {n m : Nat} {z : Str} (h : okS n z) (l : n ≤ m) : okS m z := ⟨h.1, Nat.le_trans h.2 l⟩
theorem okS.app {n m : Nat} {x y : Str} (h : okS n x) (k : okS m y) : okS (n + m) (x ++ y) := by
  have e : (x ++ y).cps.toList = x.cps.toList ++ y.cps.toList := by
    show (x.cps ++ y.cps).toList = _
    simp
  refine ⟨fun c m => ?_, ?_⟩
  · rw [e] at m
    exact (List.mem_append.mp m).elim (h.1 c) (k.1 c)
  · rw [len_cps, e, List.length_append, ← len_cps, ← len_cps]
    exact Nat.add_le_add h.2 k.2
theorem okS.cut {n : Nat} {z : Str} (h : okS n z) (l u : Option Int) : okS n (cutS z l u) := by
  unfold cutS
  refine ⟨fun c m => ?_, ?_⟩
  · exact h.1 c (List.mem_of_mem_drop (List.mem_of_mem_take (by simpa using m)))
  · rw [len_cps]
    have e1 : z.length ≤ n := h.2
    rw [len_cps] at e1
    simp only [List.length_take, List.length_drop]
    omega
theorem okS.sgn {c : Nat} (h : c < 1114112) : okS 1 (sgn c) := ⟨fun x m => by
  have e : x = c := by simpa [K1.sgn] using m
  rw [e]; exact h, Nat.le_refl _⟩
theorem okS.good {n : Nat} {z : Str} (h : okS n z) (l : n ≤ 1000) : good (.str z) = true := by
  rw [J.good, Bool.and_eq_true, decide_eq_true_eq]
  refine ⟨Array.all_eq_true'.mpr fun c m => ?_, Nat.le_trans h.2 (Nat.le_trans l (by decide))⟩
  exact decide_eq_true (h.1 c (by simpa using m))
theorem gAdd_s {x y : Str} (h : x.length + y.length ≤ 16777216) : gAdd (.str x) (.str y) = some (.str (x ++ y)) := if_pos (by rw [sizeLine_eq]; exact h)
theorem gSl_s {z : Str} (l u : Option Int) (h : z.length ≤ 1000) : gSl (.str z) l u = some (.str (cutS z l u)) := if_pos (by rw [sizeLine_eq]; omega)
/-! ### a comprehension that draws -/
theorem lcGo_inv {P : D → Prop} {bd : BD} {cond : ET} {elt : EX} {ρ : J.Env} {k N : Int} (hk : 0 ≤ k) : ∀ (xs : List D) (B : Int) (S : Store), Fd B S → B + k * xs.length ≤ N →
    (∀ x ∈ xs, ∀ (B : Int) (S : Store), Fd B S → B + k ≤ N → ∃ ρ1, bd x ρ = some ρ1 ∧ ∃ b S1, cond ρ1 S = some (b, S1) ∧ Fd (B + k) S1 ∧ (b = true → ∃ y S2, elt ρ1 S1 = some (y, S2) ∧ P y ∧ Fd (B + k) S2)) →
    ∃ ys S', lcGo bd cond elt ρ xs S = some (ys, S') ∧ (∀ y ∈ ys, P y) ∧ ys.length ≤ xs.length ∧ Fd (B + k * xs.length) S'
  | [], B, S, F, hN, h => ⟨[], S, rfl, fun y m => by simp at m, Nat.le_refl _, F.mono (by simp)⟩
  | x :: r, B, S, F, hN, h => by
    have e : k * ((x :: r).length : Int) = k + k * (r.length : Int) := by
      rw [List.length_cons]
      have : (((r.length + 1 : Nat)) : Int) = (r.length : Int) + 1 := by omega
      rw [this, Int.mul_add, Int.mul_one]; omega
    have pos : 0 ≤ k * (r.length : Int) := Int.mul_nonneg hk (by omega)
    obtain ⟨ρ1, h1, b, S1, h2, F1, h3⟩ := h x List.mem_cons_self B S F (by omega)
    rw [lcGo, h1]
    cases b with
    | false =>
      obtain ⟨ys, S', g1, g2, g3, g4⟩ := lcGo_inv hk r (B + k) S1 F1 (by omega) fun y m => h y (List.mem_cons_of_mem _ m)
      simp only [h2]
      exact ⟨ys, S', g1, g2, by rw [List.length_cons]; omega, g4.mono (by omega)⟩
    | true =>
      obtain ⟨y, S2, h4, py, F2⟩ := h3 rfl
      obtain ⟨ys, S', g1, g2, g3, g4⟩ := lcGo_inv hk r (B + k) S2 F2 (by omega) fun y m => h y (List.mem_cons_of_mem _ m)
      simp only [h2, h4, g1]
      exact ⟨y :: ys, S', rfl, fun z m => (List.mem_cons.mp m).elim (fun e => by rw [e]; exact py) (g2 z), by rw [List.length_cons, List.length_cons]; omega, g4.mono (by omega)⟩
theorem lComp_inv {P : D → Prop} {vs : List Nat} {l : EL} {bd : BD} {cond : ET} {elt : EX} {ρ : J.Env} {S S0 : Store} {xs : List D} {k N B : Int} (hk : 0 ≤ k) (hl : l ρ S0 = some (xs, S)) (hz : xs.length ≤ 5000) (F : Fd B S) (hN : B + k * xs.length ≤ N)
    (h : ∀ x ∈ xs, ∀ (B : Int) (S : Store), Fd B S → B + k ≤ N → ∃ ρ1, bd x (wipeE ρ vs) = some ρ1 ∧ ∃ b S1, cond ρ1 S = some (b, S1) ∧ Fd (B + k) S1 ∧ (b = true → ∃ y S2, elt ρ1 S1 = some (y, S2) ∧ P y ∧ Fd (B + k) S2)) :
    ∃ ys S', lComp vs l bd cond elt ρ S0 = some (ys, S') ∧ (∀ y ∈ ys, P y) ∧ ys.length ≤ xs.length ∧ Fd (B + k * xs.length) S' := by
  obtain ⟨ys, S', g1, g2, g3, g4⟩ := lcGo_inv hk xs B S F hN h
  refine ⟨ys, S', ?_, g2, g3, g4⟩
  unfold lComp
  rw [hl]; simp only; rw [g1]
  exact if_pos (by rw [sizeLine_eq]; omega)
theorem log_small {m : Int} (h0 : 0 ≤ m) (h : m < 2 ^ 63) : m.natAbs.log2 < 9000 := Nat.lt_trans (log2_lt h0 h (by decide)) (by decide)
theorem pick_l {B : Int} {S : Store} {xs : List D} (F : Fd B S) (hB : B < 1000000000) (hn : xs ≠ []) (hz : xs.length ≤ 10000000) : ∃ x S', f__law_pick [.obj 0, .lst xs] S = some (x, S') ∧ x ∈ xs ∧ Fd (B + 1) S' := by
  have pos : (0 : Int) < (xs.length : Int) := by
    have := List.length_pos_iff.mpr hn; omega
  obtain ⟨v, S', e, v0, v1, F'⟩ := draw_ok F hB pos (log_small (by omega) (by omega))
  obtain ⟨k, rfl⟩ : ∃ k : Nat, v = (k : Int) := ⟨_, (Int.toNat_of_nonneg v0).symm⟩
  have hk : k < xs.length := by omega
  refine ⟨xs[k], S', ?_, List.getElem_mem hk, F'⟩
  have I : gIx (.lst xs) (.int (k : Int)) = some xs[k] := by
    show atI xs (k : Int) = _
    rw [atI_nat, List.getElem?_eq_getElem hk]
  unfold f__law_pick g__law_pick
  simp only [runDef, sSeq, sNil, sRet, sIf, sSet, sSetL, sExt, sApp, sPar, sFreeze, sDrop, eC, eV, eP, e1, e2, l2, eL, aN, aC, aG, aGL, tOf, tAndJ, tOrJ, tNotJ, eAnd, eOr, eNot, eIf, eCh, tTru, gTru, eTup, lDisp, iOf, J.items?, iRg1, iRg2, cYes, bName, bTup, bCons, bNil, mN, mD, mO, setsS, eCall, gIsi, gIsi2, isT_tt, gLen, gI0, gLe_i, gGe_i, gGt_i, gLt_i, gAdd_i,  gListL, gTuple, eSl, oN, oS, List.map_cons, List.map_nil, List.map, List.replicate, List.length_cons, List.length_nil, List.nil_append, List.cons_append, List.append_nil, List.set_cons_zero, List.set_cons_succ, List.set, List.length, List.getElem?_cons_zero, List.getElem?_cons_succ, Nat.sub, Nat.reduceSub, Nat.reduceAdd, Nat.reduceLT, Nat.reduceLeDiff, List.getElem?_nil, Bool.false_eq_true, if_true, if_false, Bool.true_and, Bool.false_and, Bool.and_true, Bool.and_false, Bool.not_true, Bool.not_false, Bool.true_or, Bool.or_true, Bool.or_false, Bool.false_or, wipeE, e, I]
theorem pick_t {B : Int} {S : Store} {xs : List D} (F : Fd B S) (hB : B < 1000000000) (hn : xs ≠ []) (hz : xs.length ≤ 5000) : ∃ x S', f__law_pick [.obj 0, .tup xs] S = some (x, S') ∧ x ∈ xs ∧ Fd (B + 1) S' := by
  have pos : (0 : Int) < (xs.length : Int) := by
    have := List.length_pos_iff.mpr hn; omega
  obtain ⟨v, S', e, v0, v1, F'⟩ := draw_ok F hB pos (log_small (by omega) (by omega))
  obtain ⟨k, rfl⟩ : ∃ k : Nat, v = (k : Int) := ⟨_, (Int.toNat_of_nonneg v0).symm⟩
  have hk : k < xs.length := by omega
  refine ⟨xs[k], S', ?_, List.getElem_mem hk, F'⟩
  have I : gIx (.tup xs) (.int (k : Int)) = some xs[k] := by
    show atI xs (k : Int) = _
    rw [atI_nat, List.getElem?_eq_getElem hk]
  unfold f__law_pick g__law_pick
  simp only [runDef, sSeq, sNil, sRet, sIf, sSet, sSetL, sExt, sApp, sPar, sFreeze, sDrop, eC, eV, eP, e1, e2, l2, eL, aN, aC, aG, aGL, tOf, tAndJ, tOrJ, tNotJ, eAnd, eOr, eNot, eIf, eCh, tTru, gTru, eTup, lDisp, iOf, J.items?, iRg1, iRg2, cYes, bName, bTup, bCons, bNil, mN, mD, mO, setsS, eCall, gIsi, gIsi2, isT_tt, gLen, gI0, gLe_i, gGe_i, gGt_i, gLt_i, gAdd_i,  gListL, gTuple, eSl, oN, oS, List.map_cons, List.map_nil, List.map, List.replicate, List.length_cons, List.length_nil, List.nil_append, List.cons_append, List.append_nil, List.set_cons_zero, List.set_cons_succ, List.set, List.length, List.getElem?_cons_zero, List.getElem?_cons_succ, Nat.sub, Nat.reduceSub, Nat.reduceAdd, Nat.reduceLT, Nat.reduceLeDiff, List.getElem?_nil, Bool.false_eq_true, if_true, if_false, Bool.true_and, Bool.false_and, Bool.and_true, Bool.and_false, Bool.not_true, Bool.not_false, Bool.true_or, Bool.or_true, Bool.or_false, Bool.false_or, wipeE, e, I]
theorem ix_s {z : Str} {n : Nat} {v : Int} (h : okS n z) (hn : n ≤ 1000) (v0 : 0 ≤ v) (v1 : v < (z.length : Int)) : ∃ y, gIx (.str z) (.int v) = some (.str y) ∧ okS 1 y := by
  obtain ⟨k, rfl⟩ : ∃ k : Nat, v = (k : Int) := ⟨_, (Int.toNat_of_nonneg v0).symm⟩
  have hk : k < z.cps.toList.length := by rw [← len_cps]; omega
  refine ⟨sgn z.cps.toList[k], ?_, okS.sgn (h.1 _ (List.getElem_mem hk))⟩
  show (if z.length ≤ sizeLine then (atI z.cps.toList (k : Int)).map fun c => D.str ⟨#[c]⟩ else none) = _
  have := h.2
  rw [if_pos (by rw [sizeLine_eq]; omega), atI_nat, List.getElem?_eq_getElem hk]; rfl
theorem pick_s {B : Int} {S : Store} {z : Str} {n : Nat} (F : Fd B S) (hB : B < 1000000000) (h : okS n z) (hn : n ≤ 1000) (h0 : 0 < z.length) : ∃ y S', f__law_pick [.obj 0, .str z] S = some (.str y, S') ∧ okS 1 y ∧ Fd (B + 1) S' := by
  have hz := h.2
  obtain ⟨v, S', e, v0, v1, F'⟩ := draw_ok F hB (m := (z.length : Int)) (by omega) (log_small (by omega) (by omega))
  obtain ⟨y, I, oy⟩ := ix_s h hn v0 v1
  refine ⟨y, S', ?_, oy, F'⟩
  unfold f__law_pick g__law_pick
  simp only [runDef, sSeq, sNil, sRet, sIf, sSet, sSetL, sExt, sApp, sPar, sFreeze, sDrop, eC, eV, eP, e1, e2, l2, eL, aN, aC, aG, aGL, tOf, tAndJ, tOrJ, tNotJ, eAnd, eOr, eNot, eIf, eCh, tTru, gTru, eTup, lDisp, iOf, J.items?, iRg1, iRg2, cYes, bName, bTup, bCons, bNil, mN, mD, mO, setsS, eCall, gIsi, gIsi2, isT_tt, gLen, gI0, gLe_i, gGe_i, gGt_i, gLt_i, gAdd_i,  gListL, gTuple, eSl, oN, oS, List.map_cons, List.map_nil, List.map, List.replicate, List.length_cons, List.length_nil, List.nil_append, List.cons_append, List.append_nil, List.set_cons_zero, List.set_cons_succ, List.set, List.length, List.getElem?_cons_zero, List.getElem?_cons_succ, Nat.sub, Nat.reduceSub, Nat.reduceAdd, Nat.reduceLT, Nat.reduceLeDiff, List.getElem?_nil, Bool.false_eq_true, if_true, if_false, Bool.true_and, Bool.false_and, Bool.and_true, Bool.and_false, Bool.not_true, Bool.not_false, Bool.true_or, Bool.or_true, Bool.or_false, Bool.false_or, wipeE, if_pos (show z.length ≤ sizeLine by rw [sizeLine_eq]; omega), e, I]
end K1

set_option maxHeartbeats 4000000
namespace K1
open PySem PySem.Spec PyProof.Rows L2 J
def isStr (n : Nat) (d : D) : Prop := ∃ z, d = .str z ∧ okS n z
theorem strs_all {n : Nat} : ∀ ds : List D, (∀ d ∈ ds, isStr n d) → ∃ zs : List Str, J.strs? ds = some zs ∧ ds = zs.map D.str ∧ zs.length = ds.length ∧ ∀ z ∈ zs, okS n z
  | [], _ => ⟨[], rfl, rfl, rfl, fun z m => by simp at m⟩
  | d :: r, h => by
    obtain ⟨z, rfl, o⟩ := h d List.mem_cons_self
    obtain ⟨zs, e, e2, l, a⟩ := strs_all r fun x m => h x (List.mem_cons_of_mem _ m)
    exact ⟨z :: zs, by rw [J.strs?, e]; rfl, by rw [e2]; rfl, by rw [List.length_cons, List.length_cons, l], fun x m => (List.mem_cons.mp m).elim (fun q => by rw [q]; exact o) (a x)⟩
theorem sum_le {n : Nat} : ∀ zs : List Str, (∀ z ∈ zs, okS n z) → (zs.map (·.length)).sum ≤ n * zs.length
  | [], _ => Nat.zero_le _
  | z :: r, h => by
    have := sum_le r fun x m => h x (List.mem_cons_of_mem _ m)
    have h1 := (h z List.mem_cons_self).2
    rw [List.map_cons, List.sum_cons, List.length_cons, Nat.mul_add, Nat.mul_one]
    omega
theorem okS_empty : okS 0 Str.empty := ⟨fun c m => by
  have : c ∈ ([] : List Nat) := m
  simp at this, Nat.le_refl _⟩
theorem okS_join {n : Nat} : ∀ zs : List Str, (∀ z ∈ zs, okS n z) → okS (n * zs.length) (Str.join "" zs)
  | [], _ => okS_empty.mono (Nat.zero_le _)
  | [z], h => (h z List.mem_cons_self).mono (by simp)
  | z :: y :: r, h => by
    have a := okS_join (y :: r) fun x m => h x (List.mem_cons_of_mem _ m)
    have b := h z List.mem_cons_self
    have c : okS (n + 0) (z ++ ("" : Str)) := b.app okS_empty
    have d := c.app a
    have e : n + 0 + n * (y :: r).length = n * (z :: y :: r).length := by
      rw [List.length_cons (a := z), Nat.mul_add, Nat.mul_one]; omega
    rw [e] at d
    exact d
theorem join_ok {n : Nat} {ds : List D} (h : ∀ d ∈ ds, isStr n d) (hz : n * ds.length ≤ 1000) : ∃ z, gJoin (.str "") (.lst ds) = some (.str z) ∧ okS (n * ds.length) z := by
  obtain ⟨zs, e, _, l, a⟩ := strs_all ds h
  refine ⟨Txt.join "" zs, ?_, by rw [TL.join_eq, ← l]; exact okS_join zs a⟩
  show (match J.strs? ds with | some ys => if (ys.map (fun y : Str => y.length)).sum + ys.length * ("" : Str).length ≤ 16777216 then some (D.str (Txt.join "" ys)) else none | none => none) = _
  rw [e]
  have := sum_le zs a
  have e0 : ("" : Str).length = 0 := rfl
  rw [l] at this
  exact if_pos (by rw [e0, Nat.mul_zero]; omega)
theorem okSG : okS 36 SG := ⟨by decide, by decide⟩
theorem picks_ok {j : Nat} {l : EL} {ρ : J.Env} {S S0 : Store} {xs : List D} {B : Int} (h0 : ρ[0]? = some (.d (.obj 0))) (h2 : ρ[2]? = some (.d (.str SG))) (j0 : j ≠ 0) (j2 : j ≠ 2) (hl : l ρ S0 = some (xs, S)) (hz : xs.length ≤ 100) (F : Fd B S) (hB : B + 100 ≤ 1000000000) :
    ∃ ys S', lComp [j] l (bName j) cYes (eCall f__law_pick (aC (eV 0) (aC (eV 2) aN))) ρ S0 = some (ys, S') ∧ (∀ y ∈ ys, isStr 1 y) ∧ ys.length ≤ xs.length ∧ Fd (B + 1 * xs.length) S' := by
  refine lComp_inv (P := isStr 1) (k := 1) (N := B + 1 * xs.length) (by decide) hl (by omega) F (Int.le_refl _) fun x _ B' S' F' hB' => ?_
  obtain ⟨y, S2, e, oy, F2⟩ := pick_s F' (show B' < 1000000000 by omega) okSG (by decide) (by decide)
  refine ⟨_, rfl, true, S', rfl, F'.mono (by omega), fun _ => ⟨.str y, S2, ?_, ⟨y, rfl, oy⟩, F2⟩⟩
  have e0 : ((wipeE ρ [j]).set j (.d x))[0]? = some (.d (.obj 0)) := by
    simp only [wipeE]
    rw [List.getElem?_set_ne j0, List.getElem?_set_ne j0]; exact h0
  have e2' : ((wipeE ρ [j]).set j (.d x))[2]? = some (.d (.str SG)) := by
    simp only [wipeE]
    rw [List.getElem?_set_ne j2, List.getElem?_set_ne j2]; exact h2
  simp only [eCall, aC, eV, aN, e0, e2', e]
theorem forGo_inv {I : Nat → J.Env → Prop} {bd : BD} {body : GS} {k N : Int} {L : Nat} (hk : 0 ≤ k) : ∀ (xs : List D) (n : Nat) (ρ : J.Env) (B : Int) (S : Store), I n ρ → Fd B S → B + k * xs.length ≤ N → n + xs.length ≤ L →
    (∀ x ∈ xs, ∀ (n : Nat) (ρ : J.Env) (B : Int) (S : Store), n < L → I n ρ → Fd B S → B + k ≤ N → ∃ ρ1, bd x ρ = some ρ1 ∧ ∃ ρ2 S2, body ρ1 S = some (.nx ρ2, S2) ∧ I (n + 1) ρ2 ∧ Fd (B + k) S2) →
    ∃ ρ' S', forGo bd body xs ρ S = some (.nx ρ', S') ∧ I (n + xs.length) ρ' ∧ Fd (B + k * xs.length) S'
  | [], n, ρ, B, S, i, F, hN, hL, h => ⟨ρ, S, rfl, i, F.mono (by simp)⟩
  | x :: r, n, ρ, B, S, i, F, hN, hL, h => by
    have e : k * ((x :: r).length : Int) = k + k * (r.length : Int) := by
      rw [List.length_cons]
      have : (((r.length + 1 : Nat)) : Int) = (r.length : Int) + 1 := by omega
      rw [this, Int.mul_add, Int.mul_one]; omega
    have pos : 0 ≤ k * (r.length : Int) := Int.mul_nonneg hk (by omega)
    have hl : (x :: r).length = r.length + 1 := rfl
    obtain ⟨ρ1, h1, ρ2, S2, h2, i2, F2⟩ := h x List.mem_cons_self n ρ B S (by omega) i F (by omega)
    obtain ⟨ρ', S', g1, g2, g3⟩ := forGo_inv hk r (n + 1) ρ2 (B + k) S2 i2 F2 (by omega) (by omega) fun y m => h y (List.mem_cons_of_mem _ m)
    refine ⟨ρ', S', ?_, by rw [hl, show n + (r.length + 1) = n + 1 + r.length by omega]; exact g2, g3.mono (by omega)⟩
    rw [forGo, h1]
    simp only [h2, g1]
theorem rg1_at {r : EL} {ρ : J.Env} {S S1 : Store} {n : Nat} (h : r ρ S = some ([.int (n : Int)], S1)) (hn : n ≤ 100000) : iRg1 r ρ S = some (ranged 0 n, S1) := by
  unfold iRg1
  rw [h]
  show (if -(2 ^ 62) ≤ (n : Int) ∧ (n : Int) < 2 ^ 62 then some (ranged 0 (n : Int).toNat, S1) else none) = _
  rw [if_pos ⟨by omega, by omega⟩, Int.toNat_natCast]
theorem ranged_len (lo : Int) (n : Nat) : (ranged lo n).length = n := by unfold ranged; rw [List.length_map, List.length_range]
/-! ### names -/
def strB (n : Nat) : D → Bool | .str z => z.cps.toList.all (· < 1114112) && decide (z.length ≤ n) | _ => false
theorem strB_ok {n : Nat} {d : D} (h : strB n d = true) : isStr n d := by
  cases d with
  | str z =>
    rw [strB, Bool.and_eq_true, decide_eq_true_eq] at h
    exact ⟨z, rfl, fun c m => of_decide_eq_true (List.all_eq_true.mp h.1 c m), h.2⟩
  | _ => cases h
def wds : List D := [.str "source", .str "party", .str "unlike", .str "build", .str "steady", .str "loose", .str "n0", .str "n10", .str "n9", .str "a", .str "ab", .str "abc", .str "a0", .str "z9"]
theorem wds_ok : ∀ d ∈ wds, isStr 10 d := fun d m => strB_ok (List.all_eq_true.mp (show wds.all (strB 10) = true by rfl) d m)
theorem str_goods {n : Nat} {ds : List D} (h : ∀ d ∈ ds, isStr n d) (hn : n ≤ 1000) : goods ds = true := (goods_all _).mpr fun d m => by
  obtain ⟨z, rfl, o⟩ := h d m
  exact o.good hn
theorem str_dpts {n : Nat} {ds : List D} (h : ∀ d ∈ ds, isStr n d) : dpts ds ≤ 63 := (dpts_le _).mpr fun d m => by
  obtain ⟨z, rfl, o⟩ := h d m
  exact Nat.zero_le _
/-- x in a list of good things -/
theorem gIn_l {neg : Bool} {x : D} {ys : List D} (gx : good x = true) (dx : dpt x ≤ 64) (gy : goods ys = true) (dy : dpts ys ≤ 63) (hx : ∀ z, x = .str z → True) : ∃ b, gIn neg x (.lst ys) = some (.bl b) := by
  obtain ⟨y, e, c, p⟩ := good_py x gx
  obtain ⟨zs, e2, c2, p2⟩ := goods_py ys gy
  have s1 : SeqAt.shaped y = true := shaped_of c (by omega)
  have s2 : SeqAt.shaped (.list zs) = true := shaped_of c2 (by rw [PyData.depth]; omega)
  refine ⟨if neg then !zs.any fun z => PyData.eqv z y else zs.any fun z => PyData.eqv z y, ?_⟩
  have h : gInD neg y zs = some (.bl (if neg then !zs.any fun z => PyData.eqv z y else zs.any fun z => PyData.eqv z y)) := if_pos ⟨s1, s2⟩
  cases x <;> first | (simp only [gIn, e, e2, h]) | cases gx
end K1

set_option maxHeartbeats 4000000
namespace K1
open PySem PySem.Spec PyProof.Rows L2 J
def nE (many way size cut : Int) (stem : Str) (s3 : Slot) (found : List D) (s9 s10 s11 s12 s13 : Slot) : J.Env :=
  [.d (.obj 0), .d (.int many), .d (.str SG), s3, .d (.int way), .d (.int size), .own found, .d (.str stem), .d (.int cut), s9, s10, s11, s12, s13]
def N1 : GS := (sSet (e2 gAdd (e2 gAdd (eSl (eP 7) oN (oS (eV 8))) (eCall f__law_pick (aC (eV 0) (aC (eV 2) aN)))) (eSl (eP 7) (oS (eV 8)) oN)) (bName 10))
def N2 : GS := (sIf (tOf (e2 (gEq false) (eP 4) (eC (.int 1)))) (sFreeze 3 (sSet (eCall f__law_pick (aC (eV 0) (aC (eV 3) aN))) (bName 10))) sNil)
def N3 : GS := (sIf (tOf (e2 (gEq false) (eP 4) (eC (.int 2)))) (sSeq (sSet (eL (lComp [12] (iRg1 (aC (eCall f__law_draw (aC (eV 0) (aC (eC (.int 8)) aN))) aN)) (bName 12) cYes (eCall f__law_pick (aC (eV 0) (aC (eV 2) aN))))) (bName 11)) (sSet (e2 gAdd (e2 gIx (eP 2) (eCall f__law_draw (aC (eV 0) (aC (eC (.int 26)) aN)))) (e2 gJoin (eC (.str ("" : Str))) (eP 11))) (bName 10))) sNil)
def N4 : GS := (sIf (tOf (e2 (gIn false) (eP 10) (eP 6))) (sSet (e2 gIx (eL (lComp [13] (iOf (eSl (eP 2) oN (oS (eC (.int 26))))) (bName 13) (tOf (e2 (gIn true) (eP 13) (eP 6))) (eV 13))) (eC (.int 0))) (bName 10)) sNil)
section
variable {many way size cut B : Int} {stem nm : Str} {s3 s9 s10 s11 s12 s13 : Slot} {found : List D} {S : Store}
theorem n1_ok (F : Fd B S) (hB : B < 1000000) (hs : okS 8 stem) : ∃ y S', N1 (nE many way size cut stem s3 found s9 s10 s11 s12 s13) S = some (.nx (nE many way size cut stem s3 found s9 (.d (.str y)) s11 s12 s13), S') ∧ okS 40 y ∧ Fd (B + 1) S' := by
  obtain ⟨y, S', e, oy, F'⟩ := pick_s F (by omega) okSG (by decide) (by decide)
  have c1 := hs.cut none (some cut)
  have c2 := hs.cut (some cut) none
  have a1 := c1.app oy
  have a2 := a1.app c2
  refine ⟨_, S', ?_, a2.mono (by decide), F'⟩
  have l1 := c1.2
  have l2 := oy.2
  have l3 := c2.2
  have l4 := a1.2
  have g1 := gAdd_s (x := cutS stem none (some cut)) (y := y) (by omega)
  have g2 := gAdd_s (x := cutS stem none (some cut) ++ y) (y := cutS stem (some cut) none) (by omega)
  have hl := hs.2
  unfold N1 nE
  simp only [runDef, sSeq, sNil, sRet, sIf, sSet, sSetL, sExt, sApp, sPar, sFreeze, sDrop, eC, eV, eP, e1, e2, l2, eL, aN, aC, aG, aGL, tOf, tAndJ, tOrJ, tNotJ, eAnd, eOr, eNot, eIf, eCh, tTru, gTru, eTup, lDisp, iOf, J.items?, iRg1, iRg2, cYes, bName, bTup, bCons, bNil, mN, mD, mO, setsS, eCall, gIsi, gIsi2, isT_tt, gLen, gI0, gLe_i, gGe_i, gGt_i, gLt_i, gAdd_i,  gListL, gTuple, eSl, oN, oS, List.map_cons, List.map_nil, List.map, List.replicate, List.length_cons, List.length_nil, List.nil_append, List.cons_append, List.append_nil, List.set_cons_zero, List.set_cons_succ, List.set, List.length, List.getElem?_cons_zero, List.getElem?_cons_succ, Nat.sub, Nat.reduceSub, Nat.reduceAdd, Nat.reduceLT, Nat.reduceLeDiff, List.getElem?_nil, Bool.false_eq_true, if_true, if_false, Bool.true_and, Bool.false_and, Bool.and_true, Bool.and_false, Bool.not_true, Bool.not_false, wipeE, gSl_s none (some cut) (show stem.length ≤ 1000 by omega), gSl_s (some cut) none (show stem.length ≤ 1000 by omega), e, g1, g2]
theorem n2_ok (F : Fd B S) (hB : B < 1000000) (h3 : s3 = .own wds ∨ s3 = .d (.lst wds)) (hn : okS 40 nm) : ∃ y t3 S', N2 (nE many way size cut stem s3 found s9 (.d (.str nm)) s11 s12 s13) S = some (.nx (nE many way size cut stem t3 found s9 (.d (.str y)) s11 s12 s13), S') ∧ (t3 = .own wds ∨ t3 = .d (.lst wds)) ∧ okS 40 y ∧ Fd (B + 1) S' := by
  by_cases h : way = 1
  · obtain ⟨x, S', e, mx, F'⟩ := pick_l F (xs := wds) (by omega) (by decide) (by decide)
    obtain ⟨y, rfl, oy⟩ := wds_ok x mx
    refine ⟨y, .d (.lst wds), S', ?_, .inr rfl, oy.mono (by decide), F'⟩
    unfold N2 nE
    rcases h3 with rfl | rfl <;> simp only [runDef, sSeq, sNil, sRet, sIf, sSet, sSetL, sExt, sApp, sPar, sFreeze, sDrop, eC, eV, eP, e1, e2, l2, eL, aN, aC, aG, aGL, tOf, tAndJ, tOrJ, tNotJ, eAnd, eOr, eNot, eIf, eCh, tTru, gTru, eTup, lDisp, iOf, J.items?, iRg1, iRg2, cYes, bName, bTup, bCons, bNil, mN, mD, mO, setsS, eCall, gIsi, gIsi2, isT_tt, gLen, gI0, gLe_i, gGe_i, gGt_i, gLt_i, gAdd_i,  gListL, gTuple, eSl, oN, oS, List.map_cons, List.map_nil, List.map, List.replicate, List.length_cons, List.length_nil, List.nil_append, List.cons_append, List.append_nil, List.set_cons_zero, List.set_cons_succ, List.set, List.length, List.getElem?_cons_zero, List.getElem?_cons_succ, Nat.sub, Nat.reduceSub, Nat.reduceAdd, Nat.reduceLT, Nat.reduceLeDiff, List.getElem?_nil, Bool.false_eq_true, if_true, if_false, Bool.true_and, Bool.false_and, Bool.and_true, Bool.and_false, Bool.not_true, Bool.not_false, wipeE, gEq_i, h, e, show ((1 : Int) == 1) = true from rfl]
  · refine ⟨nm, s3, S, ?_, h3, hn, F.mono (by omega)⟩
    unfold N2 nE
    simp only [runDef, sSeq, sNil, sRet, sIf, sSet, sSetL, sExt, sApp, sPar, sFreeze, sDrop, eC, eV, eP, e1, e2, l2, eL, aN, aC, aG, aGL, tOf, tAndJ, tOrJ, tNotJ, eAnd, eOr, eNot, eIf, eCh, tTru, gTru, eTup, lDisp, iOf, J.items?, iRg1, iRg2, cYes, bName, bTup, bCons, bNil, mN, mD, mO, setsS, eCall, gIsi, gIsi2, isT_tt, gLen, gI0, gLe_i, gGe_i, gGt_i, gLt_i, gAdd_i,  gListL, gTuple, eSl, oN, oS, List.map_cons, List.map_nil, List.map, List.replicate, List.length_cons, List.length_nil, List.nil_append, List.cons_append, List.append_nil, List.set_cons_zero, List.set_cons_succ, List.set, List.length, List.getElem?_cons_zero, List.getElem?_cons_succ, Nat.sub, Nat.reduceSub, Nat.reduceAdd, Nat.reduceLT, Nat.reduceLeDiff, List.getElem?_nil, Bool.false_eq_true, if_true, if_false, Bool.true_and, Bool.false_and, Bool.and_true, Bool.and_false, Bool.not_true, Bool.not_false, wipeE, gEq_i, beq_eq_false_iff_ne.mpr h]
theorem n3_ok (F : Fd B S) (hB : B < 1000000) (hn : okS 40 nm) : ∃ y t11 S', N3 (nE many way size cut stem s3 found s9 (.d (.str nm)) s11 s12 s13) S = some (.nx (nE many way size cut stem s3 found s9 (.d (.str y)) t11 s12 s13), S') ∧ okS 40 y ∧ Fd (B + 20) S' := by
  by_cases h : way = 2
  · obtain ⟨v, S1, e, v0, v1, F1⟩ := draw_ok F (by omega) (m := 8) (by decide) (by decide)
    obtain ⟨n, rfl⟩ : ∃ n : Nat, v = (n : Int) := ⟨_, (Int.toNat_of_nonneg v0).symm⟩
    have L : iRg1 (aC (eCall f__law_draw (aC (eV 0) (aC (eC (.int 8)) aN))) aN) (nE many way size cut stem s3 found s9 (.d (.str nm)) s11 s12 s13) S = some (ranged 0 n, S1) := rg1_at (by unfold nE; simp only [runDef, sSeq, sNil, sRet, sIf, sSet, sSetL, sExt, sApp, sPar, sFreeze, sDrop, eC, eV, eP, e1, e2, l2, eL, aN, aC, aG, aGL, tOf, tAndJ, tOrJ, tNotJ, eAnd, eOr, eNot, eIf, eCh, tTru, gTru, eTup, lDisp, iOf, J.items?, iRg1, iRg2, cYes, bName, bTup, bCons, bNil, mN, mD, mO, setsS, eCall, gIsi, gIsi2, isT_tt, gLen, gI0, gLe_i, gGe_i, gGt_i, gLt_i, gAdd_i,  gListL, gTuple, eSl, oN, oS, List.map_cons, List.map_nil, List.map, List.replicate, List.length_cons, List.length_nil, List.nil_append, List.cons_append, List.append_nil, List.set_cons_zero, List.set_cons_succ, List.set, List.length, List.getElem?_cons_zero, List.getElem?_cons_succ, Nat.sub, Nat.reduceSub, Nat.reduceAdd, Nat.reduceLT, Nat.reduceLeDiff, List.getElem?_nil, Bool.false_eq_true, if_true, if_false, Bool.true_and, Bool.false_and, Bool.and_true, Bool.and_false, Bool.not_true, Bool.not_false, wipeE, e]) (by omega)
    obtain ⟨ys, S2, C, oy, ly, F2⟩ := picks_ok (j := 12) (ρ := nE many way size cut stem s3 found s9 (.d (.str nm)) s11 s12 s13) rfl rfl (by decide) (by decide) L (by rw [ranged_len]; omega) F1 (by omega)
    rw [ranged_len] at ly F2
    obtain ⟨z, J1, oz⟩ := join_ok oy (by omega)
    obtain ⟨v2, S3, e2', w0, w1, F3⟩ := draw_ok F2 (by omega) (m := 26) (by decide) (by decide)
    obtain ⟨c, I1, oc⟩ := ix_s okSG (by decide) w0 (show v2 < ((SG.length : Nat) : Int) from Int.lt_trans w1 (by decide))
    have a := oc.app oz
    have l1 := oc.2
    have l2 := oz.2
    refine ⟨c ++ z, .d (.lst ys), S3, ?_, a.mono (by omega), F3.mono (by omega)⟩
    have T1 : sSet (eL (lComp [12] (iRg1 (aC (eCall f__law_draw (aC (eV 0) (aC (eC (.int 8)) aN))) aN)) (bName 12) cYes (eCall f__law_pick (aC (eV 0) (aC (eV 2) aN))))) (bName 11) (nE many way size cut stem s3 found s9 (.d (.str nm)) s11 s12 s13) S = some (.nx (nE many way size cut stem s3 found s9 (.d (.str nm)) (.d (.lst ys)) s12 s13), S2) := set_at (eL_at C)
    have T2 : sSet (e2 gAdd (e2 gIx (eP 2) (eCall f__law_draw (aC (eV 0) (aC (eC (.int 26)) aN)))) (e2 gJoin (eC (.str ("" : Str))) (eP 11))) (bName 10) (nE many way size cut stem s3 found s9 (.d (.str nm)) (.d (.lst ys)) s12 s13) S2 = some (.nx (nE many way size cut stem s3 found s9 (.d (.str (c ++ z))) (.d (.lst ys)) s12 s13), S3) := by
      unfold nE
      simp only [runDef, sSeq, sNil, sRet, sIf, sSet, sSetL, sExt, sApp, sPar, sFreeze, sDrop, eC, eV, eP, e1, e2, l2, eL, aN, aC, aG, aGL, tOf, tAndJ, tOrJ, tNotJ, eAnd, eOr, eNot, eIf, eCh, tTru, gTru, eTup, lDisp, iOf, J.items?, iRg1, iRg2, cYes, bName, bTup, bCons, bNil, mN, mD, mO, setsS, eCall, gIsi, gIsi2, isT_tt, gLen, gI0, gLe_i, gGe_i, gGt_i, gLt_i, gAdd_i,  gListL, gTuple, eSl, oN, oS, List.map_cons, List.map_nil, List.map, List.replicate, List.length_cons, List.length_nil, List.nil_append, List.cons_append, List.append_nil, List.set_cons_zero, List.set_cons_succ, List.set, List.length, List.getElem?_cons_zero, List.getElem?_cons_succ, Nat.sub, Nat.reduceSub, Nat.reduceAdd, Nat.reduceLT, Nat.reduceLeDiff, List.getElem?_nil, Bool.false_eq_true, if_true, if_false, Bool.true_and, Bool.false_and, Bool.and_true, Bool.and_false, Bool.not_true, Bool.not_false, wipeE, e2', I1, J1, gAdd_s (show c.length + z.length ≤ 16777216 by omega)]
    have T0 : tOf (e2 (gEq false) (eP 4) (eC (.int 2))) (nE many way size cut stem s3 found s9 (.d (.str nm)) s11 s12 s13) S = some (true, S) := by
      unfold nE
      simp only [runDef, sSeq, sNil, sRet, sIf, sSet, sSetL, sExt, sApp, sPar, sFreeze, sDrop, eC, eV, eP, e1, e2, l2, eL, aN, aC, aG, aGL, tOf, tAndJ, tOrJ, tNotJ, eAnd, eOr, eNot, eIf, eCh, tTru, gTru, eTup, lDisp, iOf, J.items?, iRg1, iRg2, cYes, bName, bTup, bCons, bNil, mN, mD, mO, setsS, eCall, gIsi, gIsi2, isT_tt, gLen, gI0, gLe_i, gGe_i, gGt_i, gLt_i, gAdd_i,  gListL, gTuple, eSl, oN, oS, List.map_cons, List.map_nil, List.map, List.replicate, List.length_cons, List.length_nil, List.nil_append, List.cons_append, List.append_nil, List.set_cons_zero, List.set_cons_succ, List.set, List.length, List.getElem?_cons_zero, List.getElem?_cons_succ, Nat.sub, Nat.reduceSub, Nat.reduceAdd, Nat.reduceLT, Nat.reduceLeDiff, List.getElem?_nil, Bool.false_eq_true, if_true, if_false, Bool.true_and, Bool.false_and, Bool.and_true, Bool.and_false, Bool.not_true, Bool.not_false, wipeE, gEq_i, h, show ((2 : Int) == 2) = true from rfl]
    unfold N3 sIf
    rw [T0]
    exact (seq_at T1).trans T2
  · refine ⟨nm, s11, S, ?_, hn, F.mono (by omega)⟩
    unfold N3 nE
    simp only [runDef, sSeq, sNil, sRet, sIf, sSet, sSetL, sExt, sApp, sPar, sFreeze, sDrop, eC, eV, eP, e1, e2, l2, eL, aN, aC, aG, aGL, tOf, tAndJ, tOrJ, tNotJ, eAnd, eOr, eNot, eIf, eCh, tTru, gTru, eTup, lDisp, iOf, J.items?, iRg1, iRg2, cYes, bName, bTup, bCons, bNil, mN, mD, mO, setsS, eCall, gIsi, gIsi2, isT_tt, gLen, gI0, gLe_i, gGe_i, gGt_i, gLt_i, gAdd_i,  gListL, gTuple, eSl, oN, oS, List.map_cons, List.map_nil, List.map, List.replicate, List.length_cons, List.length_nil, List.nil_append, List.cons_append, List.append_nil, List.set_cons_zero, List.set_cons_succ, List.set, List.length, List.getElem?_cons_zero, List.getElem?_cons_succ, Nat.sub, Nat.reduceSub, Nat.reduceAdd, Nat.reduceLT, Nat.reduceLeDiff, List.getElem?_nil, Bool.false_eq_true, if_true, if_false, Bool.true_and, Bool.false_and, Bool.and_true, Bool.and_false, Bool.not_true, Bool.not_false, wipeE, gEq_i, beq_eq_false_iff_ne.mpr h]
end
end K1

set_option maxHeartbeats 4000000
namespace K1
open PySem PySem.Spec PyProof.Rows L2 J
theorem toPys_strs : ∀ fs : List Str, toPys (fs.map D.str) = some (fs.map PyData.str)
  | [] => rfl
  | x :: r => by rw [List.map_cons, toPys, toPys_strs r]; rfl
theorem strs_is {n : Nat} {fs : List Str} (h : ∀ z ∈ fs, okS n z) : ∀ d ∈ fs.map D.str, isStr n d := fun d m => by
  obtain ⟨z, mz, rfl⟩ := List.mem_map.mp m
  exact ⟨z, rfl, h z mz⟩
theorem gIn_fs {neg : Bool} {fs : List Str} {c : Str} {n m : Nat} (h : ∀ z ∈ fs, okS n z) (hn : n ≤ 1000) (hc : okS m c) (hm : m ≤ 1000) : gIn neg (.str c) (.lst (fs.map D.str)) = some (.bl (if neg then !decide (c ∈ fs) else decide (c ∈ fs))) := by
  obtain ⟨y, e, cy, py⟩ := good_py (.str c) (hc.good hm)
  obtain ⟨zs, e2, c2, p2⟩ := goods_py (fs.map D.str) (str_goods (strs_is h) hn)
  have dd := str_dpts (strs_is h)
  rw [toPys_strs] at e2
  cases e2
  cases e
  have s1 : SeqAt.shaped (.str c) = true := shaped_of cy (by rw [py]; exact Nat.zero_le _)
  have s2 : SeqAt.shaped (.list (fs.map PyData.str)) = true := shaped_of c2 (by rw [PyData.depth]; omega)
  have A : ((fs.map PyData.str).any fun z => PyData.eqv z (.str c)) = decide (c ∈ fs) := by
    rw [Bool.eq_iff_iff, List.any_eq_true, decide_eq_true_eq]
    constructor
    · rintro ⟨z, mz, ez⟩
      obtain ⟨a, ma, rfl⟩ := List.mem_map.mp mz
      have : (a == c) = true := ez
      rw [← beq_iff_eq.mp this]; exact ma
    · intro mc
      exact ⟨.str c, List.mem_map.mpr ⟨c, mc, rfl⟩, show (c == c) = true from beq_self_eq_true c⟩
  have G : gInD neg (.str c) (fs.map PyData.str) = some (.bl (if neg then !((fs.map PyData.str).any fun z => PyData.eqv z (.str c)) else (fs.map PyData.str).any fun z => PyData.eqv z (.str c))) := if_pos ⟨s1, s2⟩
  rw [A] at G
  have T := toPys_strs fs
  show (match toPy (.str c), toPys (fs.map D.str) with | some a, some bs => gInD neg a bs | _, _ => none) = _
  rw [T]
  exact G
def lets : List Str := FS.cps.toList.map sgn
theorem lets_nd : lets.Nodup := by decide
theorem gIx_l0 {x : D} {r : List D} : gIx (.lst (x :: r)) (.int 0) = some x := by
  show atI (x :: r) ((0 : Nat) : Int) = _
  rw [atI_nat]; rfl
section
variable {many way size cut B : Int} {stem nm : Str} {s3 s9 s10 s11 s12 s13 : Slot} {S : Store} {fs : List Str}
theorem n4_ok (hf : ∀ z ∈ fs, okS 40 z) (hl : fs.length < 26) (hn : okS 40 nm) : ∃ y, N4 (nE many way size cut stem s3 (fs.map D.str) s9 (.d (.str nm)) s11 s12 s13) S = some (.nx (nE many way size cut stem s3 (fs.map D.str) s9 (.d (.str y)) s11 s12 s13), S) ∧ okS 40 y := by
  by_cases h : nm ∈ fs
  · let p : D → Bool := fun x => match x with | .str c => !decide (c ∈ fs) | _ => false
    have C : lComp [13] (iOf (eSl (eP 2) oN (oS (eC (.int 26))))) (bName 13) (tOf (e2 (gIn true) (eP 13) (eP 6))) (eV 13) (nE many way size cut stem s3 (fs.map D.str) s9 (.d (.str nm)) s11 s12 s13) S = some ((J.signs FS).filter p, S) := by
      refine lComp_filter p (by unfold nE; simp only [runDef, sSeq, sNil, sRet, sIf, sSet, sSetL, sExt, sApp, sPar, sFreeze, sDrop, eC, eV, eP, e1, e2, l2, eL, aN, aC, aG, aGL, tOf, tAndJ, tOrJ, tNotJ, eAnd, eOr, eNot, eIf, eCh, tTru, gTru, eTup, lDisp, iOf, J.items?, iRg1, iRg2, cYes, bName, bTup, bCons, bNil, mN, mD, mO, setsS, eCall, gIsi, gIsi2, isT_tt, gLen, gI0, gLe_i, gGe_i, gGt_i, gLt_i, gAdd_i,  gListL, gTuple, eSl, oN, oS, List.map_cons, List.map_nil, List.map, List.replicate, List.length_cons, List.length_nil, List.nil_append, List.cons_append, List.append_nil, List.set_cons_zero, List.set_cons_succ, List.set, List.length, List.getElem?_cons_zero, List.getElem?_cons_succ, Nat.sub, Nat.reduceSub, Nat.reduceAdd, Nat.reduceLT, Nat.reduceLeDiff, List.getElem?_nil, Bool.false_eq_true, if_true, if_false, Bool.true_and, Bool.false_and, Bool.and_true, Bool.and_false, Bool.not_true, Bool.not_false, wipeE, cut26]) (by decide) fun x m => ?_
      unfold J.signs at m
      obtain ⟨c, mc, rfl⟩ := List.mem_map.mp m
      have G := gIn_fs (neg := true) hf (by decide) (okS.sgn (c := c) (Nat.lt_trans (show c < 200 from (show ∀ c ∈ FS.cps.toList, c < 200 by decide) c mc) (by decide))) (by decide)
      refine ⟨_, rfl, ?_, rfl⟩
      unfold nE
      simp only [runDef, sSeq, sNil, sRet, sIf, sSet, sSetL, sExt, sApp, sPar, sFreeze, sDrop, eC, eV, eP, e1, e2, l2, eL, aN, aC, aG, aGL, tOf, tAndJ, tOrJ, tNotJ, eAnd, eOr, eNot, eIf, eCh, tTru, gTru, eTup, lDisp, iOf, J.items?, iRg1, iRg2, cYes, bName, bTup, bCons, bNil, mN, mD, mO, setsS, eCall, gIsi, gIsi2, isT_tt, gLen, gI0, gLe_i, gGe_i, gGt_i, gLt_i, gAdd_i,  gListL, gTuple, eSl, oN, oS, List.map_cons, List.map_nil, List.map, List.replicate, List.length_cons, List.length_nil, List.nil_append, List.cons_append, List.append_nil, List.set_cons_zero, List.set_cons_succ, List.set, List.length, List.getElem?_cons_zero, List.getElem?_cons_succ, Nat.sub, Nat.reduceSub, Nat.reduceAdd, Nat.reduceLT, Nat.reduceLeDiff, List.getElem?_nil, Bool.false_eq_true, if_true, if_false, Bool.true_and, Bool.false_and, Bool.and_true, Bool.and_false, Bool.not_true, Bool.not_false, wipeE, show (D.str { cps := #[c] }) = D.str (sgn c) from rfl, G]
      rfl
    have ne : (J.signs FS).filter p ≠ [] := fun z => by
      have sub : lets ⊆ fs := fun c mc => by
        have mc' : D.str c ∈ J.signs FS := by
          unfold lets at mc
          obtain ⟨k, mk, rfl⟩ := List.mem_map.mp mc
          unfold J.signs
          exact List.mem_map.mpr ⟨k, mk, rfl⟩
        have q := List.filter_eq_nil_iff.mp z _ mc'
        have q' : ¬ (!decide (c ∈ fs)) = true := q
        simpa using q'
      have := lets_nd.length_le_of_subset sub
      have l26 : lets.length = 26 := by decide
      omega
    cases e : (J.signs FS).filter p with
    | nil => exact absurd e ne
    | cons x r =>
      have mx : x ∈ J.signs FS := (List.mem_filter.mp (show x ∈ (J.signs FS).filter p by rw [e]; exact List.mem_cons_self)).1
      unfold J.signs at mx
      obtain ⟨c, mc, rfl⟩ := List.mem_map.mp mx
      rw [e] at C
      refine ⟨sgn c, ?_, (okS.sgn (Nat.lt_trans (show c < 200 from (show ∀ c ∈ FS.cps.toList, c < 200 by decide) c mc) (by decide))).mono (by decide)⟩
      have G := gIn_fs (neg := false) hf (by decide) hn (by decide)
      simp only [decide_eq_true h, if_false, Bool.false_eq_true] at G
      have T0 : tOf (e2 (gIn false) (eP 10) (eP 6)) (nE many way size cut stem s3 (fs.map D.str) s9 (.d (.str nm)) s11 s12 s13) S = some (true, S) := by
        unfold nE; simp only [runDef, sSeq, sNil, sRet, sIf, sSet, sSetL, sExt, sApp, sPar, sFreeze, sDrop, eC, eV, eP, e1, e2, l2, eL, aN, aC, aG, aGL, tOf, tAndJ, tOrJ, tNotJ, eAnd, eOr, eNot, eIf, eCh, tTru, gTru, eTup, lDisp, iOf, J.items?, iRg1, iRg2, cYes, bName, bTup, bCons, bNil, mN, mD, mO, setsS, eCall, gIsi, gIsi2, isT_tt, gLen, gI0, gLe_i, gGe_i, gGt_i, gLt_i, gAdd_i,  gListL, gTuple, eSl, oN, oS, List.map_cons, List.map_nil, List.map, List.replicate, List.length_cons, List.length_nil, List.nil_append, List.cons_append, List.append_nil, List.set_cons_zero, List.set_cons_succ, List.set, List.length, List.getElem?_cons_zero, List.getElem?_cons_succ, Nat.sub, Nat.reduceSub, Nat.reduceAdd, Nat.reduceLT, Nat.reduceLeDiff, List.getElem?_nil, Bool.false_eq_true, if_true, if_false, Bool.true_and, Bool.false_and, Bool.and_true, Bool.and_false, Bool.not_true, Bool.not_false, wipeE, G]
      have T1 := set_at (i := 10) (e2_at (eL_at C) (show eC (.int 0) (nE many way size cut stem s3 (fs.map D.str) s9 (.d (.str nm)) s11 s12 s13) S = some (.int 0, S) from rfl) gIx_l0)
      unfold N4 sIf
      rw [T0]
      exact T1
  · refine ⟨nm, ?_, hn⟩
    have G := gIn_fs (neg := false) hf (by decide) hn (by decide)
    simp only [decide_eq_false h, if_false, Bool.false_eq_true] at G
    unfold N4 nE
    simp only [runDef, sSeq, sNil, sRet, sIf, sSet, sSetL, sExt, sApp, sPar, sFreeze, sDrop, eC, eV, eP, e1, e2, l2, eL, aN, aC, aG, aGL, tOf, tAndJ, tOrJ, tNotJ, eAnd, eOr, eNot, eIf, eCh, tTru, gTru, eTup, lDisp, iOf, J.items?, iRg1, iRg2, cYes, bName, bTup, bCons, bNil, mN, mD, mO, setsS, eCall, gIsi, gIsi2, isT_tt, gLen, gI0, gLe_i, gGe_i, gGt_i, gLt_i, gAdd_i,  gListL, gTuple, eSl, oN, oS, List.map_cons, List.map_nil, List.map, List.replicate, List.length_cons, List.length_nil, List.nil_append, List.cons_append, List.append_nil, List.set_cons_zero, List.set_cons_succ, List.set, List.length, List.getElem?_cons_zero, List.getElem?_cons_succ, Nat.sub, Nat.reduceSub, Nat.reduceAdd, Nat.reduceLT, Nat.reduceLeDiff, List.getElem?_nil, Bool.false_eq_true, if_true, if_false, Bool.true_and, Bool.false_and, Bool.and_true, Bool.and_false, Bool.not_true, Bool.not_false, wipeE, G]
def nI (many way size cut : Int) (stem : Str) (n : Nat) (ρ : J.Env) : Prop := ∃ (s3 : Slot) (fs : List Str) (s9 s10 s11 s12 s13 : Slot), ρ = nE many way size cut stem s3 (fs.map D.str) s9 s10 s11 s12 s13 ∧ (s3 = .own wds ∨ s3 = .d (.lst wds)) ∧ fs.length = n ∧ ∀ z ∈ fs, okS 40 z
theorem n_step (hs : okS 8 stem) {n : Nat} {ρ : J.Env} {x : D} (hn : n < 7) (i : nI many way size cut stem n ρ) (F : Fd B S) (hB : B < 900000) : ∃ ρ1, bName 9 x ρ = some ρ1 ∧ ∃ ρ2 S2, sSeq N1 (sSeq N2 (sSeq N3 (sSeq N4 (sApp 6 (eV 10))))) ρ1 S = some (.nx ρ2, S2) ∧ nI many way size cut stem (n + 1) ρ2 ∧ Fd (B + 22) S2 := by
  obtain ⟨s3, fs, s9, s10, s11, s12, s13, rfl, h3, hl, hf⟩ := i
  obtain ⟨y1, S1, e1, o1, F1⟩ := n1_ok (many := many) (way := way) (size := size) (cut := cut) (s3 := s3) (s9 := .d x) (s10 := s10) (s11 := s11) (s12 := s12) (s13 := s13) (found := fs.map D.str) F (by omega) hs
  obtain ⟨y2, t3, S2, e2, h3', o2, F2⟩ := n2_ok (many := many) (way := way) (size := size) (cut := cut) (stem := stem) (s9 := .d x) (s11 := s11) (s12 := s12) (s13 := s13) (found := fs.map D.str) F1 (by omega) h3 o1
  obtain ⟨y3, t11, S3, e3, o3, F3⟩ := n3_ok (many := many) (way := way) (size := size) (cut := cut) (stem := stem) (s3 := t3) (s9 := .d x) (s11 := s11) (s12 := s12) (s13 := s13) (found := fs.map D.str) F2 (by omega) o2
  obtain ⟨y4, e4, o4⟩ := n4_ok (many := many) (way := way) (size := size) (cut := cut) (stem := stem) (s3 := t3) (s9 := .d x) (s11 := t11) (s12 := s12) (s13 := s13) (S := S3) hf (by omega) o3
  refine ⟨nE many way size cut stem s3 (fs.map D.str) (.d x) s10 s11 s12 s13, rfl, nE many way size cut stem t3 ((fs ++ [y4]).map D.str) (.d x) (.d (.str y4)) t11 s12 s13, S3, ?_, ⟨t3, fs ++ [y4], _, _, _, _, _, rfl, h3', by rw [List.length_append, hl]; rfl, fun z m => (List.mem_append.mp m).elim (hf z) fun m => by rw [List.mem_singleton.mp m]; exact o4⟩, F3.mono (by omega)⟩
  refine (seq_at e1).trans ((seq_at e2).trans ((seq_at e3).trans ((seq_at e4).trans ?_)))
  unfold nE
  simp only [sApp, eV, List.getElem?_cons_zero, List.getElem?_cons_succ, if_pos (show (fs.map D.str).length < sizeLine by rw [List.length_map, sizeLine_eq]; omega), List.set, List.map_append, List.map_cons, List.map_nil]
theorem for_at {l : EL} {bd : BD} {body : GS} {ρ : J.Env} {S S1 : Store} {xs : List D} {r : Option (Out × Store)} (h1 : l ρ S = some (xs, S1)) (h2 : forGo bd body xs ρ S1 = r) : sFor l bd body ρ S = r := by
  unfold sFor; rw [h1]; exact h2
theorem names_ok {many : Nat} (F : Fd B S) (hm : many ≤ 7) (hB : B < 800000) : ∃ (ys : List Str) (S' : Store), f__law_names [.obj 0, .int (many : Int)] S = some (.lst (ys.map D.str), S') ∧ (∀ y ∈ ys, okS 40 y) ∧ ys.length = many ∧ Fd (B + 200) S' := by
  obtain ⟨way, S1, e1, w0, w1, F1⟩ := draw_ok F (by omega) (m := 3) (by decide) (by decide)
  obtain ⟨size, S2, q2, z0, z1, F2⟩ := draw_ok F1 (by omega) (m := 7) (by decide) (by decide)
  obtain ⟨n, rfl⟩ : ∃ n : Nat, size = (n : Int) := ⟨_, (Int.toNat_of_nonneg z0).symm⟩
  obtain ⟨v, S3, e3, v0, v1, F3⟩ := draw_ok F2 (by omega) (m := 26) (by decide) (by decide)
  obtain ⟨c, I1, oc⟩ := ix_s okSG (by decide) v0 (show v < ((SG.length : Nat) : Int) from Int.lt_trans v1 (by decide))
  let ρ4 : J.Env := [.d (.obj 0), .d (.int many), .d (.str SG), .own wds, .d (.int way), .d (.int n), .own [], .un, .un, .un, .un, .un, .un, .un]
  obtain ⟨ys, S4, C, oy, ly, F4⟩ := picks_ok (j := 9) (l := iRg1 (aC (eP 5) aN)) (ρ := ρ4) (S0 := S3) rfl rfl (by decide) (by decide) (rg1_at (n := n) rfl (by omega)) (by rw [ranged_len]; omega) F3 (by omega)
  rw [ranged_len] at ly F4
  obtain ⟨z, J1, oz⟩ := join_ok oy (by omega)
  have os : okS 8 (c ++ z) := (oc.app oz).mono (by omega)
  have l1 := oc.2
  have l2 := oz.2
  obtain ⟨w, S5, e5, x0, x1, F5⟩ := draw_ok F4 (by omega) (m := (n : Int) + 1) (by omega) (log_small (by omega) (by omega))
  let ρ6 : J.Env := nE many way n (1 + w) (c ++ z) (.own wds) [] .un .un .un .un .un
  have i0 : nI many way n (1 + w) (c ++ z) 0 ρ6 := ⟨.own wds, [], .un, .un, .un, .un, .un, rfl, .inl rfl, rfl, fun z m => by simp at m⟩
  obtain ⟨ρ7, S6, e6, i7, F6⟩ := forGo_inv (I := nI many way n (1 + w) (c ++ z)) (bd := bName 9) (body := sSeq N1 (sSeq N2 (sSeq N3 (sSeq N4 (sApp 6 (eV 10)))))) (k := 22) (N := 900000 - 1) (L := 7) (by decide) (ranged 0 many) 0 ρ6 (B + 1 + 1 + 1 + 1 * (n : Int) + 1) S5 i0 F5 (by rw [ranged_len]; omega) (by rw [ranged_len]; omega)
    fun x _ n' ρ' B' S' hn' i' F' hB' => n_step os hn' i' F' (by omega)
  rw [ranged_len] at i7 F6
  obtain ⟨s3, fs, s9, s10, s11, s12, s13, rfl, h3, hl, hf⟩ := i7
  refine ⟨fs, S6, ?_, hf, by omega, F6.mono (by omega)⟩
  have T4 : (sPar [4, 5, 6] (mD (eCall f__law_draw (aC (eV 0) (aC (eC (.int 3)) aN))) (mD (eCall f__law_draw (aC (eV 0) (aC (eC (.int 7)) aN))) (mO (lDisp aN) mN)))) [.d (.obj 0), .d (.int many), .d (.str SG), .own wds, .un, .un, .un, .un, .un, .un, .un, .un, .un, .un] S = some (.nx ρ4, S2) := by
    simp only [runDef, sSeq, sNil, sRet, sIf, sSet, sSetL, sExt, sApp, sPar, sFreeze, sDrop, eC, eV, eP, e1, e2, l2, eL, aN, aC, aG, aGL, tOf, tAndJ, tOrJ, tNotJ, eAnd, eOr, eNot, eIf, eCh, tTru, gTru, eTup, lDisp, iOf, J.items?, iRg1, iRg2, cYes, bName, bTup, bCons, bNil, mN, mD, mO, setsS, eCall, gIsi, gIsi2, isT_tt, gLen, gI0, gLe_i, gGe_i, gGt_i, gLt_i, gAdd_i,  gListL, gTuple, eSl, oN, oS, List.map_cons, List.map_nil, List.map, List.replicate, List.length_cons, List.length_nil, List.nil_append, List.cons_append, List.append_nil, List.set_cons_zero, List.set_cons_succ, List.set, List.length, List.getElem?_cons_zero, List.getElem?_cons_succ, Nat.sub, Nat.reduceSub, Nat.reduceAdd, Nat.reduceLT, Nat.reduceLeDiff, List.getElem?_nil, Bool.false_eq_true, if_true, if_false, Bool.true_and, Bool.false_and, Bool.and_true, Bool.and_false, Bool.not_true, Bool.not_false, wipeE, sPar, e1, q2, if_pos (sz (k := 0))]
    rfl
  have T5 : (sSet (e2 gAdd (e2 gIx (eP 2) (eCall f__law_draw (aC (eV 0) (aC (eC (.int 26)) aN)))) (e2 gJoin (eC (.str ("" : Str))) (eL (lComp [9] (iRg1 (aC (eP 5) aN)) (bName 9) cYes (eCall f__law_pick (aC (eV 0) (aC (eV 2) aN))))))) (bName 7)) ρ4 S2 = some (.nx (ρ4.set 7 (.d (.str (c ++ z)))), S4) := by
    have A : J.e2 gIx (eP 2) (eCall f__law_draw (aC (eV 0) (aC (eC (.int 26)) aN))) ρ4 S2 = some (.str c, S3) := e2_at rfl (show eCall f__law_draw (aC (eV 0) (aC (eC (.int 26)) aN)) ρ4 S2 = some (.int v, S3) from e3) I1
    exact set_at (e2_at A (e2_at (show eC (.str "") ρ4 S3 = some (.str "", S3) from rfl) (eL_at C) J1) (gAdd_s (by omega)))
  have T6 : (sSet (e2 gAdd (eC (.int 1)) (eCall f__law_draw (aC (eV 0) (aC (e2 gAdd (eP 5) (eC (.int 1))) aN)))) (bName 8)) (ρ4.set 7 (.d (.str (c ++ z)))) S4 = some (.nx ρ6, S5) :=
    set_at (i := 8) (e2_at (show eC (.int 1) (ρ4.set 7 (.d (.str (c ++ z)))) S4 = some (.int 1, S4) from rfl) (show eCall f__law_draw (aC (eV 0) (aC (J.e2 gAdd (eP 5) (eC (.int 1))) aN)) (ρ4.set 7 (.d (.str (c ++ z)))) S4 = some (.int w, S5) from e5) (gAdd_i 1 w))
  have T7 : sFor (iRg1 (aC (eP 1) aN)) (bName 9) (sSeq N1 (sSeq N2 (sSeq N3 (sSeq N4 (sApp 6 (eV 10)))))) ρ6 S5 = some (.nx (nE many way n (1 + w) (c ++ z) s3 (fs.map D.str) s9 s10 s11 s12 s13), S6) := by
    have l7 : iRg1 (aC (eP 1) aN) ρ6 S5 = some (ranged 0 many, S5) := rg1_at (r := aC (eP 1) aN) (ρ := ρ6) (S := S5) (n := many) rfl (by omega)
    exact for_at l7 e6
  have T8 : sFreeze 6 (sRet (eV 6)) (nE many way n (1 + w) (c ++ z) s3 (fs.map D.str) s9 s10 s11 s12 s13) S6 = some (.rt (.lst (fs.map D.str)), S6) := rfl
  have T2 : (sSetL 3 (lDisp (aC (eC (.str ("source" : Str))) (aC (eC (.str ("party" : Str))) (aC (eC (.str ("unlike" : Str))) (aC (eC (.str ("build" : Str))) (aC (eC (.str ("steady" : Str))) (aC (eC (.str ("loose" : Str))) (aC (eC (.str ("n0" : Str))) (aC (eC (.str ("n10" : Str))) (aC (eC (.str ("n9" : Str))) aN))))))))))) [.d (.obj 0), .d (.int many), .d (.str SG), .un, .un, .un, .un, .un, .un, .un, .un, .un, .un, .un] S = some (.nx [.d (.obj 0), .d (.int many), .d (.str SG), .own (wds.take 9), .un, .un, .un, .un, .un, .un, .un, .un, .un, .un], S) := by
    simp only [runDef, sSeq, sNil, sRet, sIf, sSet, sSetL, sExt, sApp, sPar, sFreeze, sDrop, eC, eV, eP, e1, e2, l2, eL, aN, aC, aG, aGL, tOf, tAndJ, tOrJ, tNotJ, eAnd, eOr, eNot, eIf, eCh, tTru, gTru, eTup, lDisp, iOf, J.items?, iRg1, iRg2, cYes, bName, bTup, bCons, bNil, mN, mD, mO, setsS, eCall, gIsi, gIsi2, isT_tt, gLen, gI0, gLe_i, gGe_i, gGt_i, gLt_i, gAdd_i,  gListL, gTuple, eSl, oN, oS, List.map_cons, List.map_nil, List.map, List.replicate, List.length_cons, List.length_nil, List.nil_append, List.cons_append, List.append_nil, List.set_cons_zero, List.set_cons_succ, List.set, List.length, List.getElem?_cons_zero, List.getElem?_cons_succ, Nat.sub, Nat.reduceSub, Nat.reduceAdd, Nat.reduceLT, Nat.reduceLeDiff, List.getElem?_nil, Bool.false_eq_true, if_true, if_false, Bool.true_and, Bool.false_and, Bool.and_true, Bool.and_false, Bool.not_true, Bool.not_false, wipeE, if_pos (sz (k := 9))]
    rfl
  have T3 : (sExt 3 (eL (lDisp (aC (eC (.str ("a" : Str))) (aC (eC (.str ("ab" : Str))) (aC (eC (.str ("abc" : Str))) (aC (eC (.str ("a0" : Str))) (aC (eC (.str ("z9" : Str))) aN)))))))) [.d (.obj 0), .d (.int many), .d (.str SG), .own (wds.take 9), .un, .un, .un, .un, .un, .un, .un, .un, .un, .un] S = some (.nx [.d (.obj 0), .d (.int many), .d (.str SG), .own wds, .un, .un, .un, .un, .un, .un, .un, .un, .un, .un], S) := by
    simp only [runDef, sSeq, sNil, sRet, sIf, sSet, sSetL, sExt, sApp, sPar, sFreeze, sDrop, eC, eV, eP, e1, e2, l2, eL, aN, aC, aG, aGL, tOf, tAndJ, tOrJ, tNotJ, eAnd, eOr, eNot, eIf, eCh, tTru, gTru, eTup, lDisp, iOf, J.items?, iRg1, iRg2, cYes, bName, bTup, bCons, bNil, mN, mD, mO, setsS, eCall, gIsi, gIsi2, isT_tt, gLen, gI0, gLe_i, gGe_i, gGt_i, gLt_i, gAdd_i,  gListL, gTuple, eSl, oN, oS, List.map_cons, List.map_nil, List.map, List.replicate, List.length_cons, List.length_nil, List.nil_append, List.cons_append, List.append_nil, List.set_cons_zero, List.set_cons_succ, List.set, List.length, List.getElem?_cons_zero, List.getElem?_cons_succ, Nat.sub, Nat.reduceSub, Nat.reduceAdd, Nat.reduceLT, Nat.reduceLeDiff, List.getElem?_nil, Bool.false_eq_true, if_true, if_false, Bool.true_and, Bool.false_and, Bool.and_true, Bool.and_false, Bool.not_true, Bool.not_false, wipeE, if_pos (sz (k := 5)), show (wds.take 9).length = 9 from rfl, if_pos (sz (k := 14))]
    rfl
  exact run_at ((seq_at (set_at (i := 2) rfl)).trans ((seq_at T2).trans ((seq_at T3).trans ((seq_at T4).trans ((seq_at T5).trans ((seq_at T6).trans ((seq_at T7).trans T8)))))))
end
end K1

set_option maxHeartbeats 4000000
namespace K1
open PySem PySem.Spec PyProof.Rows L2 J
theorem pow6 : gI CPow (fun i j => i ^ j.toNat) (.int 10) (.int 6) = some (.int (10 ^ 6)) := rfl
theorem pow53 : gI CPow (fun i j => i ^ j.toNat) (.int 10) (.int 53) = some (.int (10 ^ 53)) := rfl
section
variable {B : Int} {S : Store}
theorem weight_ok (F : Fd B S) (hB : B < 900000) : ∃ i S', f__law_weight [.obj 0] S = some (.int i, S') ∧ Fd (B + 3) S' := by
  obtain ⟨v, S1, e1, v0, v1, F1⟩ := draw_ok F (by omega) (m := 4) (by decide) (by decide)
  by_cases h : v = 0
  · obtain ⟨a, S2, q2, a0, a1, F2⟩ := draw_ok F1 (by omega) (m := 10 ^ 6) (by decide) (by decide)
    obtain ⟨b, S3, q3, b0, b1, F3⟩ := draw_ok F2 (by omega) (m := 10 ^ 6) (by decide) (by decide)
    have la : a.natAbs.log2 < 30 := log2_lt a0 (by omega) (by decide)
    have lb : ((10 : Int) ^ 53).natAbs.log2 < 200 := by decide
    refine ⟨1 + a * 10 ^ 53 + b, S3, ?_, F3.mono (by omega)⟩
    unfold f__law_weight g__law_weight
    simp only [runDef, sSeq, sNil, sRet, sIf, sSet, sSetL, sExt, sApp, sPar, sFreeze, sDrop, eC, eV, eP, e1, e2, l2, eL, aN, aC, aG, aGL, tOf, tAndJ, tOrJ, tNotJ, eAnd, eOr, eNot, eIf, eCh, tTru, gTru, eTup, lDisp, iOf, J.items?, iRg1, iRg2, cYes, bName, bTup, bCons, bNil, mN, mD, mO, setsS, eCall, gIsi, gIsi2, isT_tt, gLen, gI0, gLe_i, gGe_i, gGt_i, gLt_i, gAdd_i,  gListL, gTuple, eSl, oN, oS, List.map_cons, List.map_nil, List.map, List.replicate, List.length_cons, List.length_nil, List.nil_append, List.cons_append, List.append_nil, List.set_cons_zero, List.set_cons_succ, List.set, List.length, List.getElem?_cons_zero, List.getElem?_cons_succ, Nat.sub, Nat.reduceSub, Nat.reduceAdd, Nat.reduceLT, Nat.reduceLeDiff, List.getElem?_nil, Bool.false_eq_true, if_true, if_false, Bool.true_and, Bool.false_and, Bool.and_true, Bool.and_false, Bool.not_true, Bool.not_false, Bool.true_or, Bool.or_true, Bool.or_false, Bool.false_or, wipeE, e1, gEq_i, h, show ((0 : Int) == 0) = true from rfl, pow6, pow53, q2, q3, mul_i (show a.natAbs.log2 + ((10 : Int) ^ 53).natAbs.log2 < 1000000 by omega)]
  · obtain ⟨m, I, m0, m1⟩ : ∃ m, gIx (.lst [.int 3, .int 12, .int 1200]) (.int (v - 1)) = some (.int m) ∧ 0 < m ∧ m < 2000 := by
      have : v = 1 ∨ v = 2 ∨ v = 3 := by omega
      rcases this with rfl | rfl | rfl
      · exact ⟨3, rfl, by decide, by decide⟩
      · exact ⟨12, rfl, by decide, by decide⟩
      · exact ⟨1200, rfl, by decide, by decide⟩
    obtain ⟨b, S3, q3, b0, b1, F3⟩ := draw_ok F1 (by omega) (m := m) m0 (log_small (by omega) (by omega))
    refine ⟨1 + b, S3, ?_, F3.mono (by omega)⟩
    unfold f__law_weight g__law_weight
    simp only [runDef, sSeq, sNil, sRet, sIf, sSet, sSetL, sExt, sApp, sPar, sFreeze, sDrop, eC, eV, eP, e1, e2, l2, eL, aN, aC, aG, aGL, tOf, tAndJ, tOrJ, tNotJ, eAnd, eOr, eNot, eIf, eCh, tTru, gTru, eTup, lDisp, iOf, J.items?, iRg1, iRg2, cYes, bName, bTup, bCons, bNil, mN, mD, mO, setsS, eCall, gIsi, gIsi2, isT_tt, gLen, gI0, gLe_i, gGe_i, gGt_i, gLt_i, gAdd_i,  gListL, gTuple, eSl, oN, oS, List.map_cons, List.map_nil, List.map, List.replicate, List.length_cons, List.length_nil, List.nil_append, List.cons_append, List.append_nil, List.set_cons_zero, List.set_cons_succ, List.set, List.length, List.getElem?_cons_zero, List.getElem?_cons_succ, Nat.sub, Nat.reduceSub, Nat.reduceAdd, Nat.reduceLT, Nat.reduceLeDiff, List.getElem?_nil, Bool.false_eq_true, if_true, if_false, Bool.true_and, Bool.false_and, Bool.and_true, Bool.and_false, Bool.not_true, Bool.not_false, Bool.true_or, Bool.or_true, Bool.or_false, Bool.false_or, wipeE, e1, gEq_i, beq_eq_false_iff_ne.mpr h, if_pos (sz (k := 3)), I, q3]
/-! ### sources -/
def sE (ns ts ks : List D) (found : List D) (a b c d e f g h i : Slot) : J.Env := [.d (.obj 0), .d (.lst ns), .d (.lst ts), .d (.lst ks), .own found, a, b, c, d, e, f, g, h, i]
def srow (d : D) : Prop := ∃ a b sp s us, d = .tup [.str a, .str b, .tup sp, .bl s, .tup us] ∧ okS 40 a ∧ okS 40 b ∧ (∀ x ∈ sp, isStr 40 x) ∧ (∀ x ∈ us, isStr 40 x) ∧ sp.length ≤ 5 ∧ us.length ≤ 5
theorem srt_is {n : Nat} {ys : List Str} (h : ∀ z ∈ ys, okS n z) : ∀ d ∈ (srt (nub ys)).map D.str, isStr n d := fun d m => by
  obtain ⟨z, mz, rfl⟩ := List.mem_map.mp m
  exact ⟨z, rfl, h z (nub_mem.mp ((srt_perm _).mem_iff.mp mz))⟩
theorem sset_ok {n : Nat} {f : EX} {ρ : J.Env} {S0 S : Store} {ds : List D} (h : f ρ S0 = some (.lst ds, S)) (hs : ∀ d ∈ ds, isStr n d) (hz : ds.length ≤ 5) : ∃ ys, lSortedSet f ρ S0 = some (ys, S) ∧ (∀ y ∈ ys, isStr n y) ∧ ys.length ≤ 5 := by
  obtain ⟨zs, e, _, l, a⟩ := strs_all ds hs
  refine ⟨(srt (nub zs)).map D.str, ?_, srt_is a, ?_⟩
  · unfold lSortedSet
    rw [h]; simp only; rw [e]; simp only
    exact if_pos (by omega)
  · rw [List.length_map, (srt_perm _).length_eq]
    have := nub_len zs
    omega
/-- picks from a list of texts -/
theorem picks_l {n j i : Nat} {l : EL} {ρ : J.Env} {S S0 : Store} {xs ws : List D} {B : Int} (h0 : ρ[0]? = some (.d (.obj 0))) (hi : ρ[i]? = some (.d (.lst ws))) (j0 : j ≠ 0) (ji : j ≠ i) (hl : l ρ S0 = some (xs, S)) (hz : xs.length ≤ 100) (F : Fd B S) (hB : B + 100 ≤ 1000000000)
    (hw : ∀ d ∈ ws, isStr n d) (hne : xs ≠ [] → ws ≠ []) (hwz : ws.length ≤ 5000) :
    ∃ ys S', lComp [j] l (bName j) cYes (eCall f__law_pick (aC (eV 0) (aC (eV i) aN))) ρ S0 = some (ys, S') ∧ (∀ y ∈ ys, isStr n y) ∧ ys.length ≤ xs.length ∧ Fd (B + 1 * xs.length) S' := by
  refine lComp_inv (P := isStr n) (k := 1) (N := B + 1 * xs.length) (by decide) hl (by omega) F (Int.le_refl _) fun x mx B' S' F' hB' => ?_
  obtain ⟨y, S2, e, my, F2⟩ := pick_l F' (show B' < 1000000000 by omega) (hne fun z => by rw [z] at mx; simp at mx) (Nat.le_trans hwz (by decide))
  refine ⟨_, rfl, true, S', rfl, F'.mono (by omega), fun _ => ⟨y, S2, ?_, hw y my, F2⟩⟩
  have e0 : ((wipeE ρ [j]).set j (.d x))[0]? = some (.d (.obj 0)) := by
    simp only [wipeE]
    rw [List.getElem?_set_ne j0, List.getElem?_set_ne j0]; exact h0
  have e2' : ((wipeE ρ [j]).set j (.d x))[i]? = some (.d (.lst ws)) := by
    simp only [wipeE]
    rw [List.getElem?_set_ne ji, List.getElem?_set_ne ji]; exact hi
  simp only [eCall, aC, eV, aN, e0, e2', e]
theorem lComp_some {P : D → Prop} {vs : List Nat} {l : EL} {bd : BD} {cond : ET} {elt : EX} {ρ : J.Env} {S S0 : Store} {xs : List D} (hl : l ρ S0 = some (xs, S)) (hz : xs.length ≤ 5000)
    (h : ∀ x ∈ xs, ∃ ρ1, bd x (wipeE ρ vs) = some ρ1 ∧ ∃ b, cond ρ1 S = some (b, S) ∧ (b = true → ∃ y, elt ρ1 S = some (y, S) ∧ P y)) :
    ∃ ys, lComp vs l bd cond elt ρ S0 = some (ys, S) ∧ (∀ y ∈ ys, P y) ∧ ys.length ≤ xs.length := by
  have go : ∀ xs : List D, (∀ x ∈ xs, ∃ ρ1, bd x (wipeE ρ vs) = some ρ1 ∧ ∃ b, cond ρ1 S = some (b, S) ∧ (b = true → ∃ y, elt ρ1 S = some (y, S) ∧ P y)) → ∃ ys, lcGo bd cond elt (wipeE ρ vs) xs S = some (ys, S) ∧ (∀ y ∈ ys, P y) ∧ ys.length ≤ xs.length := by
    intro xs
    induction xs with
    | nil => intro _; exact ⟨[], rfl, fun y m => by simp at m, Nat.le_refl _⟩
    | cons x r ih =>
      intro h
      obtain ⟨ys, g1, g2, g3⟩ := ih fun y m => h y (List.mem_cons_of_mem _ m)
      obtain ⟨ρ1, h1, b, h2, h3⟩ := h x List.mem_cons_self
      rw [lcGo, h1]
      cases b with
      | false =>
        simp only [h2]
        exact ⟨ys, g1, g2, by rw [List.length_cons]; omega⟩
      | true =>
        obtain ⟨y, h4, py⟩ := h3 rfl
        simp only [h2, h4, g1]
        exact ⟨y :: ys, rfl, fun z m => (List.mem_cons.mp m).elim (fun e => by rw [e]; exact py) (g2 z), by rw [List.length_cons, List.length_cons]; omega⟩
  obtain ⟨ys, g1, g2, g3⟩ := go xs h
  refine ⟨ys, ?_, g2, g3⟩
  unfold lComp
  rw [hl]; simp only; rw [g1]
  exact if_pos (by rw [sizeLine_eq]; omega)
theorem tup_at {f : EX} {ρ : J.Env} {S S1 : Store} {xs : List D} (h : f ρ S = some (.lst xs, S1)) : aG gTuple (aC f aN) ρ S = some (.tup xs, S1) := by
  simp only [aG, aC, aN, h, gTuple]
theorem lcGo_each {P : D → Prop} {bd : BD} {elt : EX} {ρ : J.Env} {k N : Int} (hk : 0 ≤ k) : ∀ (xs : List D) (B : Int) (S : Store), Fd B S → B + k * xs.length ≤ N →
    (∀ x ∈ xs, ∀ (B : Int) (S : Store), Fd B S → B + k ≤ N → ∃ ρ1, bd x ρ = some ρ1 ∧ ∃ y S2, elt ρ1 S = some (y, S2) ∧ P y ∧ Fd (B + k) S2) →
    ∃ ys S', lcGo bd cYes elt ρ xs S = some (ys, S') ∧ (∀ y ∈ ys, P y) ∧ ys.length = xs.length ∧ Fd (B + k * xs.length) S'
  | [], B, S, F, hN, h => ⟨[], S, rfl, fun y m => by simp at m, rfl, F.mono (by simp)⟩
  | x :: r, B, S, F, hN, h => by
    have e : k * ((x :: r).length : Int) = k + k * (r.length : Int) := by
      rw [List.length_cons]
      have : (((r.length + 1 : Nat)) : Int) = (r.length : Int) + 1 := by omega
      rw [this, Int.mul_add, Int.mul_one]; omega
    have pos : 0 ≤ k * (r.length : Int) := Int.mul_nonneg hk (by omega)
    obtain ⟨ρ1, h1, y, S2, h4, py, F2⟩ := h x List.mem_cons_self B S F (by omega)
    obtain ⟨ys, S', g1, g2, g3, g4⟩ := lcGo_each hk r (B + k) S2 F2 (by omega) fun y m => h y (List.mem_cons_of_mem _ m)
    rw [lcGo, h1]
    simp only [cYes, h4]
    simp only [g1]
    exact ⟨y :: ys, S', rfl, fun z m => (List.mem_cons.mp m).elim (fun e => by rw [e]; exact py) (g2 z), by rw [List.length_cons, List.length_cons, g3], g4.mono (by omega)⟩
theorem lComp_each {P : D → Prop} {vs : List Nat} {l : EL} {bd : BD} {elt : EX} {ρ : J.Env} {S S0 : Store} {xs : List D} {k N B : Int} (hk : 0 ≤ k) (hl : l ρ S0 = some (xs, S)) (hz : xs.length ≤ 5000) (F : Fd B S) (hN : B + k * xs.length ≤ N)
    (h : ∀ x ∈ xs, ∀ (B : Int) (S : Store), Fd B S → B + k ≤ N → ∃ ρ1, bd x (wipeE ρ vs) = some ρ1 ∧ ∃ y S2, elt ρ1 S = some (y, S2) ∧ P y ∧ Fd (B + k) S2) :
    ∃ ys S', lComp vs l bd cYes elt ρ S0 = some (ys, S') ∧ (∀ y ∈ ys, P y) ∧ ys.length = xs.length ∧ Fd (B + k * xs.length) S' := by
  obtain ⟨ys, S', g1, g2, g3, g4⟩ := lcGo_each hk xs B S F hN h
  refine ⟨ys, S', ?_, g2, g3, g4⟩
  unfold lComp
  rw [hl]; simp only; rw [g1]
  exact if_pos (by rw [sizeLine_eq]; omega)
def S1g : GS := (sSet (eL (lComp [12] (iRg1 (aC (aG gLen (aC (eP 1) aN)) aN)) (bName 12) (tOf (e2 gLt (eTup (aC (e2 gIx (eP 3) (eP 12)) (aC (eV 12) aN))) (eTup (aC (e2 gIx (eP 3) (eP 5)) (aC (eV 5) aN))))) (e2 gIx (eP 1) (eP 12)))) (bName 7))
def S2g : GS := (sSet (eIf (tOf (e2 (gEq true) (eP 7) (eL (lDisp aN)))) (eCall f__law_draw (aC (eV 0) (aC (eC (.int 4)) aN))) (eC (.int 0))) (bName 8))
def S3g : GS := (sSet (aG gTuple (aC (eL (lSortedSet (eL (lComp [13] (iRg1 (aC (eP 8) aN)) (bName 13) cYes (eCall f__law_pick (aC (eV 0) (aC (eV 7) aN))))))) aN)) (bName 9))
def S4g : GS := (sSet (aG gTuple (aC (eL (lSortedSet (eL (lComp [13] (iRg1 (aC (eCall f__law_draw (aC (eV 0) (aC (eC (.int 3)) aN))) aN)) (bName 13) cYes (eCall f__law_pick (aC (eV 0) (aC (eV 2) aN))))))) aN)) (bName 10))
def S5g : GS := (sSet (e2 gGt (eCall f__law_draw (aC (eV 0) (aC (eC (.int 3)) aN))) (eC (.int 0))) (bName 11))
def S6g : GS := (sApp 4 (eTup (aC (eV 6) (aC (eCall f__law_pick (aC (eV 0) (aC (eV 2) aN))) (aC (eV 10) (aC (eV 11) (aC (eV 9) aN)))))))
variable {ns ts found : List D} {ks : List Int} {a b c d e f g h i : Slot} {k : Nat} {nm : Str}
theorem gIx_lk {xs : List D} {k : Nat} (h : k < xs.length) : gIx (.lst xs) (.int (k : Int)) = some xs[k] := by
  show atI xs (k : Int) = _
  rw [atI_nat, List.getElem?_eq_getElem h]
theorem gTuple_l (xs : List D) : gTuple [.lst xs] = some (.tup xs) := rfl
theorem lt_pairs (x y z w : Int) : gLt (.tup [.int x, .int y]) (.tup [.int z, .int w]) = some (.bl (HT.lexLt [x, y] [z, w])) := rfl
theorem s1_ok (F : Fd B S) (hn : ∀ x ∈ ns, isStr 40 x) (hz : ns.length ≤ 10) (hk : ks.length = ns.length) (k5 : k < ns.length) :
    ∃ lower, S1g (sE ns ts (ks.map D.int) found (.d (.int (k : Int))) b c d e f g h i) S = some (.nx (sE ns ts (ks.map D.int) found (.d (.int (k : Int))) b (.d (.lst lower)) d e f g h i), S) ∧ (∀ x ∈ lower, isStr 40 x) ∧ lower.length ≤ 10 := by
  have L : iRg1 (aC (aG gLen (aC (eP 1) aN)) aN) (sE ns ts (ks.map D.int) found (.d (.int (k : Int))) b c d e f g h i) S = some (ranged 0 ns.length, S) := rg1_at (n := ns.length) rfl (by omega)
  obtain ⟨lower, C, o, l⟩ := lComp_some (P := isStr 40) (vs := [12]) (bd := bName 12) (cond := tOf (e2 gLt (eTup (aC (e2 gIx (eP 3) (eP 12)) (aC (eV 12) aN))) (eTup (aC (e2 gIx (eP 3) (eP 5)) (aC (eV 5) aN))))) (elt := e2 gIx (eP 1) (eP 12)) L (by rw [ranged_len]; omega) fun x mx => by
    unfold ranged at mx
    obtain ⟨j, mj, rfl⟩ := List.mem_map.mp mx
    have mj := List.mem_range.mp mj
    rw [show (0 : Int) + (j : Int) = (j : Int) by omega]
    have i1 : gIx (.lst (ks.map D.int)) (.int (j : Int)) = some (.int (ks[j]'(by omega))) := by
      rw [gIx_lk (xs := ks.map D.int) (k := j) (by rw [List.length_map]; omega), List.getElem_map]
    have i2 : gIx (.lst (ks.map D.int)) (.int (k : Int)) = some (.int (ks[k]'(by omega))) := by
      rw [gIx_lk (xs := ks.map D.int) (k := k) (by rw [List.length_map]; omega), List.getElem_map]
    have i3 : gIx (.lst ns) (.int (j : Int)) = some (ns[j]) := gIx_lk mj
    refine ⟨_, rfl, HT.lexLt [ks[j]'(by omega), (j : Int)] [ks[k]'(by omega), (k : Int)], ?_, fun _ => ⟨ns[j], ?_, hn _ (List.getElem_mem mj)⟩⟩
    · unfold sE
      simp only [runDef, sSeq, sNil, sRet, sIf, sSet, sSetL, sExt, sApp, sPar, sFreeze, sDrop, eC, eV, eP, e1, e2, l2, eL, aN, aC, aG, aGL, tOf, tAndJ, tOrJ, tNotJ, eAnd, eOr, eNot, eIf, eCh, tTru, gTru, eTup, lDisp, iOf, J.items?, iRg1, iRg2, cYes, bName, bTup, bCons, bNil, mN, mD, mO, setsS, eCall, gIsi, gIsi2, isT_tt, gLen, gI0, gLe_i, gGe_i, gGt_i, gLt_i, gAdd_i,  gListL, gTuple, eSl, oN, oS, List.map_cons, List.map_nil, List.map, List.replicate, List.length_cons, List.length_nil, List.nil_append, List.cons_append, List.append_nil, List.set_cons_zero, List.set_cons_succ, List.set, List.length, List.getElem?_cons_zero, List.getElem?_cons_succ, Nat.sub, Nat.reduceSub, Nat.reduceAdd, Nat.reduceLT, Nat.reduceLeDiff, List.getElem?_nil, Bool.false_eq_true, if_true, if_false, Bool.true_and, Bool.false_and, Bool.and_true, Bool.and_false, Bool.not_true, Bool.not_false, Bool.true_or, Bool.or_true, Bool.or_false, Bool.false_or, wipeE, i1, i2, lt_pairs, if_pos (sz (k := 2))]
    · unfold sE
      simp only [runDef, sSeq, sNil, sRet, sIf, sSet, sSetL, sExt, sApp, sPar, sFreeze, sDrop, eC, eV, eP, e1, e2, l2, eL, aN, aC, aG, aGL, tOf, tAndJ, tOrJ, tNotJ, eAnd, eOr, eNot, eIf, eCh, tTru, gTru, eTup, lDisp, iOf, J.items?, iRg1, iRg2, cYes, bName, bTup, bCons, bNil, mN, mD, mO, setsS, eCall, gIsi, gIsi2, isT_tt, gLen, gI0, gLe_i, gGe_i, gGt_i, gLt_i, gAdd_i,  gListL, gTuple, eSl, oN, oS, List.map_cons, List.map_nil, List.map, List.replicate, List.length_cons, List.length_nil, List.nil_append, List.cons_append, List.append_nil, List.set_cons_zero, List.set_cons_succ, List.set, List.length, List.getElem?_cons_zero, List.getElem?_cons_succ, Nat.sub, Nat.reduceSub, Nat.reduceAdd, Nat.reduceLT, Nat.reduceLeDiff, List.getElem?_nil, Bool.false_eq_true, if_true, if_false, Bool.true_and, Bool.false_and, Bool.and_true, Bool.and_false, Bool.not_true, Bool.not_false, Bool.true_or, Bool.or_true, Bool.or_false, Bool.false_or, wipeE, i3]
  rw [ranged_len] at l
  exact ⟨lower, set_at (i := 7) (eL_at C), o, by omega⟩
theorem s2_ok {lower : List D} (F : Fd B S) (hB : B < 900000) (hn : ∀ x ∈ lower, isStr 40 x) : ∃ n S', S2g (sE ns ts (ks.map D.int) found a b (.d (.lst lower)) d e f g h i) S = some (.nx (sE ns ts (ks.map D.int) found a b (.d (.lst lower)) (.d (.int ((n : Nat) : Int))) e f g h i), S') ∧ n ≤ 3 ∧ (n ≠ 0 → lower ≠ []) ∧ Fd (B + 1) S' := by
  have N := gEq_nil (neg := true) (str_goods hn (by decide)) (str_dpts hn)
  cases lower with
  | nil =>
    refine ⟨0, S, ?_, by decide, fun z => absurd rfl z, F.mono (by omega)⟩
    simp only [List.isEmpty, Bool.not_true, if_true] at N
    unfold S2g sE
    simp only [runDef, sSeq, sNil, sRet, sIf, sSet, sSetL, sExt, sApp, sPar, sFreeze, sDrop, eC, eV, eP, e1, e2, l2, eL, aN, aC, aG, aGL, tOf, tAndJ, tOrJ, tNotJ, eAnd, eOr, eNot, eIf, eCh, tTru, gTru, eTup, lDisp, iOf, J.items?, iRg1, iRg2, cYes, bName, bTup, bCons, bNil, mN, mD, mO, setsS, eCall, gIsi, gIsi2, isT_tt, gLen, gI0, gLe_i, gGe_i, gGt_i, gLt_i, gAdd_i,  gListL, gTuple, eSl, oN, oS, List.map_cons, List.map_nil, List.map, List.replicate, List.length_cons, List.length_nil, List.nil_append, List.cons_append, List.append_nil, List.set_cons_zero, List.set_cons_succ, List.set, List.length, List.getElem?_cons_zero, List.getElem?_cons_succ, Nat.sub, Nat.reduceSub, Nat.reduceAdd, Nat.reduceLT, Nat.reduceLeDiff, List.getElem?_nil, Bool.false_eq_true, if_true, if_false, Bool.true_and, Bool.false_and, Bool.and_true, Bool.and_false, Bool.not_true, Bool.not_false, Bool.true_or, Bool.or_true, Bool.or_false, Bool.false_or, wipeE, N, if_pos (sz (k := 0))]
    rfl
  | cons x r =>
    obtain ⟨v, S1, q1, v0, v1, F1⟩ := draw_ok F (by omega) (m := 4) (by decide) (by decide)
    obtain ⟨n, rfl⟩ : ∃ n : Nat, v = (n : Int) := ⟨_, (Int.toNat_of_nonneg v0).symm⟩
    refine ⟨n, S1, ?_, by omega, fun _ => List.cons_ne_nil _ _, F1⟩
    simp only [List.isEmpty, Bool.not_false, if_true] at N
    unfold S2g sE
    simp only [runDef, sSeq, sNil, sRet, sIf, sSet, sSetL, sExt, sApp, sPar, sFreeze, sDrop, eC, eV, eP, e1, e2, l2, eL, aN, aC, aG, aGL, tOf, tAndJ, tOrJ, tNotJ, eAnd, eOr, eNot, eIf, eCh, tTru, gTru, eTup, lDisp, iOf, J.items?, iRg1, iRg2, cYes, bName, bTup, bCons, bNil, mN, mD, mO, setsS, eCall, gIsi, gIsi2, isT_tt, gLen, gI0, gLe_i, gGe_i, gGt_i, gLt_i, gAdd_i,  gListL, gTuple, eSl, oN, oS, List.map_cons, List.map_nil, List.map, List.replicate, List.length_cons, List.length_nil, List.nil_append, List.cons_append, List.append_nil, List.set_cons_zero, List.set_cons_succ, List.set, List.length, List.getElem?_cons_zero, List.getElem?_cons_succ, Nat.sub, Nat.reduceSub, Nat.reduceAdd, Nat.reduceLT, Nat.reduceLeDiff, List.getElem?_nil, Bool.false_eq_true, if_true, if_false, Bool.true_and, Bool.false_and, Bool.and_true, Bool.and_false, Bool.not_true, Bool.not_false, Bool.true_or, Bool.or_true, Bool.or_false, Bool.false_or, wipeE, N, if_pos (sz (k := 0)), q1]
theorem s3_ok {lower : List D} {n : Nat} (F : Fd B S) (hB : B < 900000) (hn : ∀ x ∈ lower, isStr 40 x) (hz : lower.length ≤ 10) (n3 : n ≤ 3) (hne : n ≠ 0 → lower ≠ []) : ∃ us S', S3g (sE ns ts (ks.map D.int) found a b (.d (.lst lower)) (.d (.int (n : Int))) e f g h i) S = some (.nx (sE ns ts (ks.map D.int) found a b (.d (.lst lower)) (.d (.int (n : Int))) (.d (.tup us)) f g h i), S') ∧ (∀ x ∈ us, isStr 40 x) ∧ us.length ≤ 5 ∧ Fd (B + 3) S' := by
  obtain ⟨ys, S', C, o, l, F'⟩ := picks_l (j := 13) (i := 7) (n := 40) (l := iRg1 (aC (eP 8) aN)) (ρ := sE ns ts (ks.map D.int) found a b (.d (.lst lower)) (.d (.int (n : Int))) e f g h i) (S0 := S) rfl rfl (by decide) (by decide) (rg1_at (n := n) rfl (by omega)) (by rw [ranged_len]; omega) F (by omega) hn (fun z => hne fun q => z (by rw [q]; rfl)) (by omega)
  rw [ranged_len] at l F'
  obtain ⟨us, U, o2, l2⟩ := sset_ok (eL_at C) o (by omega)
  refine ⟨us, S', set_at (i := 9) (tup_at (eL_at U)), o2, l2, F'.mono (by omega)⟩
theorem s4_ok (F : Fd B S) (hB : B < 900000) (hn : ∀ x ∈ ts, isStr 40 x) (hz : ts.length ≤ 10) (hne : ts ≠ []) : ∃ us S', S4g (sE ns ts (ks.map D.int) found a b c d e f g h i) S = some (.nx (sE ns ts (ks.map D.int) found a b c d e (.d (.tup us)) g h i), S') ∧ (∀ x ∈ us, isStr 40 x) ∧ us.length ≤ 5 ∧ Fd (B + 4) S' := by
  obtain ⟨v, S1, q1, v0, v1, F1⟩ := draw_ok F (by omega) (m := 3) (by decide) (by decide)
  obtain ⟨n, rfl⟩ : ∃ n : Nat, v = (n : Int) := ⟨_, (Int.toNat_of_nonneg v0).symm⟩
  have L : iRg1 (aC (eCall f__law_draw (aC (eV 0) (aC (eC (.int 3)) aN))) aN) (sE ns ts (ks.map D.int) found a b c d e f g h i) S = some (ranged 0 n, S1) := rg1_at (by unfold sE; simp only [runDef, sSeq, sNil, sRet, sIf, sSet, sSetL, sExt, sApp, sPar, sFreeze, sDrop, eC, eV, eP, e1, e2, l2, eL, aN, aC, aG, aGL, tOf, tAndJ, tOrJ, tNotJ, eAnd, eOr, eNot, eIf, eCh, tTru, gTru, eTup, lDisp, iOf, J.items?, iRg1, iRg2, cYes, bName, bTup, bCons, bNil, mN, mD, mO, setsS, eCall, gIsi, gIsi2, isT_tt, gLen, gI0, gLe_i, gGe_i, gGt_i, gLt_i, gAdd_i,  gListL, gTuple, eSl, oN, oS, List.map_cons, List.map_nil, List.map, List.replicate, List.length_cons, List.length_nil, List.nil_append, List.cons_append, List.append_nil, List.set_cons_zero, List.set_cons_succ, List.set, List.length, List.getElem?_cons_zero, List.getElem?_cons_succ, Nat.sub, Nat.reduceSub, Nat.reduceAdd, Nat.reduceLT, Nat.reduceLeDiff, List.getElem?_nil, Bool.false_eq_true, if_true, if_false, Bool.true_and, Bool.false_and, Bool.and_true, Bool.and_false, Bool.not_true, Bool.not_false, Bool.true_or, Bool.or_true, Bool.or_false, Bool.false_or, wipeE, q1]) (by omega)
  obtain ⟨ys, S', C, o, l, F'⟩ := picks_l (j := 13) (i := 2) (n := 40) (ρ := sE ns ts (ks.map D.int) found a b c d e f g h i) (S0 := S) rfl rfl (by decide) (by decide) L (by rw [ranged_len]; omega) F1 (by omega) hn (fun _ => hne) (by omega)
  rw [ranged_len] at l F'
  obtain ⟨us, U, o2, l2⟩ := sset_ok (eL_at C) o (by omega)
  refine ⟨us, S', set_at (i := 10) (tup_at (eL_at U)), o2, l2, F'.mono (by omega)⟩
theorem s5_ok (F : Fd B S) (hB : B < 900000) : ∃ t S', S5g (sE ns ts (ks.map D.int) found a b c d e f g h i) S = some (.nx (sE ns ts (ks.map D.int) found a b c d e f (.d (.bl t)) h i), S') ∧ Fd (B + 1) S' := by
  obtain ⟨v, S1, q1, v0, v1, F1⟩ := draw_ok F (by omega) (m := 3) (by decide) (by decide)
  refine ⟨decide (0 < v), S1, ?_, F1⟩
  unfold S5g sE
  simp only [runDef, sSeq, sNil, sRet, sIf, sSet, sSetL, sExt, sApp, sPar, sFreeze, sDrop, eC, eV, eP, e1, e2, l2, eL, aN, aC, aG, aGL, tOf, tAndJ, tOrJ, tNotJ, eAnd, eOr, eNot, eIf, eCh, tTru, gTru, eTup, lDisp, iOf, J.items?, iRg1, iRg2, cYes, bName, bTup, bCons, bNil, mN, mD, mO, setsS, eCall, gIsi, gIsi2, isT_tt, gLen, gI0, gLe_i, gGe_i, gGt_i, gLt_i, gAdd_i,  gListL, gTuple, eSl, oN, oS, List.map_cons, List.map_nil, List.map, List.replicate, List.length_cons, List.length_nil, List.nil_append, List.cons_append, List.append_nil, List.set_cons_zero, List.set_cons_succ, List.set, List.length, List.getElem?_cons_zero, List.getElem?_cons_succ, Nat.sub, Nat.reduceSub, Nat.reduceAdd, Nat.reduceLT, Nat.reduceLeDiff, List.getElem?_nil, Bool.false_eq_true, if_true, if_false, Bool.true_and, Bool.false_and, Bool.and_true, Bool.and_false, Bool.not_true, Bool.not_false, Bool.true_or, Bool.or_true, Bool.or_false, Bool.false_or, wipeE, q1]
theorem s6_ok {us sp : List D} {t : Bool} (F : Fd B S) (hB : B < 900000) (hn : ∀ x ∈ ts, isStr 40 x) (hz : ts.length ≤ 10) (hne : ts ≠ []) (hnm : okS 40 nm) (hf : found.length < 100) (o1 : ∀ x ∈ us, isStr 40 x) (o2 : ∀ x ∈ sp, isStr 40 x) (l1 : us.length ≤ 5) (l2 : sp.length ≤ 5) :
    ∃ row S', S6g (sE ns ts (ks.map D.int) found a (.d (.str nm)) c d (.d (.tup us)) (.d (.tup sp)) (.d (.bl t)) h i) S = some (.nx (sE ns ts (ks.map D.int) (found ++ [row]) a (.d (.str nm)) c d (.d (.tup us)) (.d (.tup sp)) (.d (.bl t)) h i), S') ∧ srow row ∧ Fd (B + 1) S' := by
  obtain ⟨x, S', q, mx, F'⟩ := pick_l F (show B < 1000000000 by omega) hne (by omega)
  obtain ⟨y, rfl, oy⟩ := hn x mx
  refine ⟨.tup [.str nm, .str y, .tup sp, .bl t, .tup us], S', ?_, ⟨nm, y, sp, t, us, rfl, hnm, oy, o2, o1, l2, l1⟩, F'⟩
  unfold S6g sE
  simp only [runDef, sSeq, sNil, sRet, sIf, sSet, sSetL, sExt, sApp, sPar, sFreeze, sDrop, eC, eV, eP, e1, e2, l2, eL, aN, aC, aG, aGL, tOf, tAndJ, tOrJ, tNotJ, eAnd, eOr, eNot, eIf, eCh, tTru, gTru, eTup, lDisp, iOf, J.items?, iRg1, iRg2, cYes, bName, bTup, bCons, bNil, mN, mD, mO, setsS, eCall, gIsi, gIsi2, isT_tt, gLen, gI0, gLe_i, gGe_i, gGt_i, gLt_i, gAdd_i,  gListL, gTuple, eSl, oN, oS, List.map_cons, List.map_nil, List.map, List.replicate, List.length_cons, List.length_nil, List.nil_append, List.cons_append, List.append_nil, List.set_cons_zero, List.set_cons_succ, List.set, List.length, List.getElem?_cons_zero, List.getElem?_cons_succ, Nat.sub, Nat.reduceSub, Nat.reduceAdd, Nat.reduceLT, Nat.reduceLeDiff, List.getElem?_nil, Bool.false_eq_true, if_true, if_false, Bool.true_and, Bool.false_and, Bool.and_true, Bool.and_false, Bool.not_true, Bool.not_false, Bool.true_or, Bool.or_true, Bool.or_false, Bool.false_or, wipeE, q, if_pos (sz (k := 5)), if_pos (show found.length < sizeLine by rw [sizeLine_eq]; omega)]
def sI (ns ts : List D) (ks : List Int) (n : Nat) (ρ : J.Env) : Prop := ∃ (found : List D) (a b c d e f g h i : Slot), ρ = sE ns ts (ks.map D.int) found a b c d e f g h i ∧ found.length = n ∧ ∀ r ∈ found, srow r
theorem s_step {n : Nat} {ρ : J.Env} (hn : ∀ x ∈ ns, isStr 40 x) (hz : ns.length ≤ 10) (hk : ks.length = ns.length) (ht : ∀ x ∈ ts, isStr 40 x) (tz : ts.length ≤ 10) (tne : ts ≠ []) (k5 : k < ns.length) (n5 : n < 10) (i : sI ns ts ks n ρ) (F : Fd B S) (hB : B < 800000) :
    ∃ ρ1, bTup 2 (bCons (bName 5) (bCons (bName 6) bNil)) (.tup [.int (k : Int), ns[k]]) ρ = some ρ1 ∧ ∃ ρ2 S2, sSeq S1g (sSeq S2g (sSeq S3g (sSeq S4g (sSeq S5g S6g)))) ρ1 S = some (.nx ρ2, S2) ∧ sI ns ts ks (n + 1) ρ2 ∧ Fd (B + 10) S2 := by
  obtain ⟨found, a, b, c, d, e, f, g, h, i, rfl, hl, hr⟩ := i
  obtain ⟨nm, en, onm⟩ := hn ns[k] (List.getElem_mem k5)
  obtain ⟨lower, e1, o1, l1⟩ := s1_ok (ts := ts) (found := found) (b := .d ns[k]) (c := c) (d := d) (e := e) (f := f) (g := g) (h := h) (i := i) F hn hz hk k5
  obtain ⟨m, S2, e2, m3, mne, F2⟩ := s2_ok (ns := ns) (ts := ts) (ks := ks) (found := found) (a := .d (.int (k : Int))) (b := .d ns[k]) (d := d) (e := e) (f := f) (g := g) (h := h) (i := i) F (by omega) o1
  obtain ⟨us, S3, e3, o3, l3, F3⟩ := s3_ok (ns := ns) (ts := ts) (ks := ks) (found := found) (a := .d (.int (k : Int))) (b := .d ns[k]) (e := e) (f := f) (g := g) (h := h) (i := i) F2 (by omega) o1 l1 m3 mne
  obtain ⟨sp, S4, e4, o4, l4, F4⟩ := s4_ok (ns := ns) (ks := ks) (found := found) (a := .d (.int (k : Int))) (b := .d ns[k]) (c := .d (.lst lower)) (d := .d (.int (m : Int))) (e := .d (.tup us)) (f := f) (g := g) (h := h) (i := i) F3 (by omega) ht tz tne
  obtain ⟨t, S5, e5, F5⟩ := s5_ok (ns := ns) (ts := ts) (ks := ks) (found := found) (a := .d (.int (k : Int))) (b := .d ns[k]) (c := .d (.lst lower)) (d := .d (.int (m : Int))) (e := .d (.tup us)) (f := .d (.tup sp)) (g := g) (h := h) (i := i) F4 (by omega)
  obtain ⟨row, S6, e6, o6, F6⟩ := s6_ok (ns := ns) (ts := ts) (ks := ks) (found := found) (a := .d (.int (k : Int))) (nm := nm) (c := .d (.lst lower)) (d := .d (.int (m : Int))) (us := us) (sp := sp) (t := t) (h := h) (i := i) F5 (by omega) ht tz tne onm (by omega) o3 o4 l3 l4
  refine ⟨sE ns ts (ks.map D.int) found (.d (.int (k : Int))) (.d ns[k]) c d e f g h i, rfl, sE ns ts (ks.map D.int) (found ++ [row]) (.d (.int (k : Int))) (.d (.str nm)) (.d (.lst lower)) (.d (.int (m : Int))) (.d (.tup us)) (.d (.tup sp)) (.d (.bl t)) h i, S6, ?_, ⟨found ++ [row], _, _, _, _, _, _, _, _, _, rfl, by rw [List.length_append, hl]; rfl, fun r mr => (List.mem_append.mp mr).elim (hr r) fun mr => by rw [List.mem_singleton.mp mr]; exact o6⟩, F6.mono (by omega)⟩
  rw [en] at e1 e2 e3 e4 e5 ⊢
  exact (seq_at e1).trans ((seq_at e2).trans ((seq_at e3).trans ((seq_at e4).trans ((seq_at e5).trans e6))))
theorem sources_ok (F : Fd B S) (hB : B < 700000) (hn : ∀ x ∈ ns, isStr 40 x) (hz : ns.length ≤ 10) (ht : ∀ x ∈ ts, isStr 40 x) (tz : ts.length ≤ 10) (tne : ts ≠ []) :
    ∃ rows S', f__law_sources [.obj 0, .lst ns, .lst ts] S = some (.tup rows, S') ∧ (∀ r ∈ rows, srow r) ∧ rows.length = ns.length ∧ Fd (B + 200) S' := by
  -- the keys
  have K : ∃ (ks : List Int) (S1 : Store), lComp [6] (iOf (eP 1)) (bName 6) cYes (eCall f__law_draw (aC (eV 0) (aC (eC (.int 100)) aN))) ([.d (.obj 0), .d (.lst ns), .d (.lst ts)] ++ List.replicate 11 .un) S = some (ks.map D.int, S1) ∧ ks.length = ns.length ∧ Fd (B + 1 * ns.length) S1 := by
    obtain ⟨ys, S1, C, o, l, F1⟩ := lComp_each (P := fun d => ∃ i, d = D.int i) (k := 1) (N := B + 1 * ns.length) (vs := [6]) (l := iOf (eP 1)) (bd := bName 6) (elt := eCall f__law_draw (aC (eV 0) (aC (eC (.int 100)) aN))) (ρ := [.d (.obj 0), .d (.lst ns), .d (.lst ts)] ++ List.replicate 11 .un) (S0 := S) (S := S) (xs := ns) (by decide) rfl (by omega) F (Int.le_refl _) fun x _ B' S' F' hB' => by
      obtain ⟨v, S2, q, v0, v1, F2⟩ := draw_ok F' (show B' < 1000000000 by omega) (m := 100) (by decide) (by decide)
      exact ⟨_, rfl, .int v, S2, by
        show eCall f__law_draw (aC (eV 0) (aC (eC (.int 100)) aN)) [.d (.obj 0), .d (.lst ns), .d (.lst ts), .un, .un, .un, .d x, .un, .un, .un, .un, .un, .un, .un] S' = _
        simp only [runDef, sSeq, sNil, sRet, sIf, sSet, sSetL, sExt, sApp, sPar, sFreeze, sDrop, eC, eV, eP, e1, e2, l2, eL, aN, aC, aG, aGL, tOf, tAndJ, tOrJ, tNotJ, eAnd, eOr, eNot, eIf, eCh, tTru, gTru, eTup, lDisp, iOf, J.items?, iRg1, iRg2, cYes, bName, bTup, bCons, bNil, mN, mD, mO, setsS, eCall, gIsi, gIsi2, isT_tt, gLen, gI0, gLe_i, gGe_i, gGt_i, gLt_i, gAdd_i,  gListL, gTuple, eSl, oN, oS, List.map_cons, List.map_nil, List.map, List.replicate, List.length_cons, List.length_nil, List.nil_append, List.cons_append, List.append_nil, List.set_cons_zero, List.set_cons_succ, List.set, List.length, List.getElem?_cons_zero, List.getElem?_cons_succ, Nat.sub, Nat.reduceSub, Nat.reduceAdd, Nat.reduceLT, Nat.reduceLeDiff, List.getElem?_nil, Bool.false_eq_true, if_true, if_false, Bool.true_and, Bool.false_and, Bool.and_true, Bool.and_false, Bool.not_true, Bool.not_false, Bool.true_or, Bool.or_true, Bool.or_false, Bool.false_or, wipeE, q], ⟨v, rfl⟩, F2⟩
    have M : ∀ ys : List D, (∀ y ∈ ys, ∃ i, y = D.int i) → ∃ ks : List Int, ys = ks.map D.int := by
      intro ys
      induction ys with
      | nil => intro _; exact ⟨[], rfl⟩
      | cons y r ih =>
        intro h
        obtain ⟨i, rfl⟩ := h y List.mem_cons_self
        obtain ⟨ks, rfl⟩ := ih fun z m => h z (List.mem_cons_of_mem _ m)
        exact ⟨i :: ks, rfl⟩
    obtain ⟨ks, rfl⟩ := M ys o
    exact ⟨ks, S1, C, by rw [List.length_map] at l; exact l, F1⟩
  obtain ⟨ks, S1, C, lk, F1⟩ := K
  have i0 : sI ns ts ks 0 (sE ns ts (ks.map D.int) [] .un .un .un .un .un .un .un .un .un) := ⟨[], _, _, _, _, _, _, _, _, _, rfl, rfl, fun r m => by simp at m⟩
  have lc : (counted ns).length = ns.length := by unfold counted; rw [List.length_zipWith, List.length_range, Nat.min_self]
  obtain ⟨ρ7, S6, e6, i7, F6⟩ := forGo_inv (I := sI ns ts ks) (bd := bTup 2 (bCons (bName 5) (bCons (bName 6) bNil))) (body := sSeq S1g (sSeq S2g (sSeq S3g (sSeq S4g (sSeq S5g S6g))))) (k := 10) (N := 800000 - 1) (L := 10) (by decide) (counted ns) 0 _ _ S1 i0 F1 (by rw [lc]; omega) (by rw [lc]; omega)
    fun x mx n' ρ' B' S' hn' i' F' hB' => by
      obtain ⟨j, hj, rfl⟩ := List.mem_iff_getElem.mp mx
      rw [lc] at hj
      have ex : (counted ns)[j]'(by rw [lc]; exact hj) = .tup [.int (j : Int), ns[j]] := by
        unfold counted
        rw [List.getElem_zipWith, List.getElem_range]
      rw [ex]
      exact s_step hn hz lk ht tz tne hj hn' i' F' (by omega)
  rw [lc] at i7 F6
  obtain ⟨rows, a, b, c, d, e, f, g, h, i, rfl, hl, hr⟩ := i7
  refine ⟨rows, S6, ?_, hr, by omega, F6.mono (by omega)⟩
  have T1 : (sPar [3, 4] (mD (eL (lComp [6] (iOf (eP 1)) (bName 6) cYes (eCall f__law_draw (aC (eV 0) (aC (eC (.int 100)) aN))))) (mO (lDisp aN) mN))) ([.d (.obj 0), .d (.lst ns), .d (.lst ts)] ++ List.replicate 11 .un) S = some (.nx (sE ns ts (ks.map D.int) [] .un .un .un .un .un .un .un .un .un), S1) := by
    unfold sPar mD
    rw [eL_at C]
    rfl
  have T2 : sFor (iEn (aC (eV 1) aN)) (bTup 2 (bCons (bName 5) (bCons (bName 6) bNil))) (sSeq S1g (sSeq S2g (sSeq S3g (sSeq S4g (sSeq S5g S6g))))) (sE ns ts (ks.map D.int) [] .un .un .un .un .un .un .un .un .un) S1 = some (.nx (sE ns ts (ks.map D.int) rows a b c d e f g h i), S6) := for_at (show iEn (aC (eV 1) aN) _ S1 = some (counted ns, S1) from rfl) e6
  have T3 : sRet (aG gTuple (aC (eP 4) aN)) (sE ns ts (ks.map D.int) rows a b c d e f g h i) S6 = some (.rt (.tup rows), S6) := ret_at (tup_at rfl)
  exact run_at ((seq_at T1).trans ((seq_at T2).trans T3))
end
end K1

set_option maxHeartbeats 4000000
namespace K1
open PySem PySem.Spec PyProof.Rows L2 J
def prow (d : D) : Prop := ∃ a i, d = .tup [.str a, .int i] ∧ okS 40 a
theorem isStr.good {n : Nat} {d : D} (h : isStr n d) (hn : n ≤ 1000) : J.good d = true := by obtain ⟨z, rfl, o⟩ := h; exact o.good hn
theorem isStr.dpt {n : Nat} {d : D} (h : isStr n d) : J.dpt d = 0 := by obtain ⟨z, rfl, o⟩ := h; rfl
mutual
def sm : D → Bool
  | .non => true
  | .bl _ => true
  | .int _ => true
  | .str z => z.cps.all (· < 0x110000) && decide (z.length ≤ 1000)
  | .lst xs => decide (xs.length ≤ 5000) && sms xs
  | .tup xs => decide (xs.length ≤ 5000) && sms xs
  | .frz _ => false
  | .obj _ => false
def sms : List D → Bool
  | [] => true
  | x :: r => sm x && sms r
end
theorem sms_all : ∀ xs : List D, sms xs = true ↔ ∀ x ∈ xs, sm x = true
  | [] => by simp [sms]
  | x :: r => by rw [sms, Bool.and_eq_true, sms_all r]; simp
mutual
theorem sm_good : ∀ d : D, sm d = true → J.good d = true
  | .non, _ => rfl
  | .bl _, _ => rfl
  | .int _, _ => rfl
  | .str z, h => by
    rw [sm, Bool.and_eq_true, decide_eq_true_eq] at h
    rw [J.good, Bool.and_eq_true, decide_eq_true_eq]
    exact ⟨h.1, Nat.le_trans h.2 (by decide)⟩
  | .lst xs, h => by
    rw [sm, Bool.and_eq_true, decide_eq_true_eq] at h
    rw [J.good, Bool.and_eq_true, decide_eq_true_eq]
    exact ⟨Nat.le_trans h.1 (by decide), sms_good xs h.2⟩
  | .tup xs, h => by
    rw [sm, Bool.and_eq_true, decide_eq_true_eq] at h
    rw [J.good, Bool.and_eq_true, decide_eq_true_eq]
    exact ⟨Nat.le_trans h.1 (by decide), sms_good xs h.2⟩
  | .frz _, h => by cases h
  | .obj _, h => by cases h
theorem sms_good : ∀ ds : List D, sms ds = true → goods ds = true
  | [], _ => rfl
  | x :: r, h => by
    rw [sms, Bool.and_eq_true] at h
    rw [goods, sm_good x h.1, sms_good r h.2]; rfl
end
def gd (n : Nat) (d : D) : Prop := sm d = true ∧ J.dpt d ≤ n
theorem gd_tup {n : Nat} {xs : List D} (hz : xs.length ≤ 5000) (h : ∀ x ∈ xs, gd n x) : gd (n + 1) (.tup xs) := by
  refine ⟨by rw [sm, Bool.and_eq_true, decide_eq_true_eq]; exact ⟨hz, (sms_all _).mpr fun x m => (h x m).1⟩, ?_⟩
  rw [J.dpt]
  exact Nat.succ_le_succ ((dpts_le _).mpr fun x m => (h x m).2)
theorem gd_lst {n : Nat} {xs : List D} (hz : xs.length ≤ 5000) (h : ∀ x ∈ xs, gd n x) : gd (n + 1) (.lst xs) := by
  refine ⟨by rw [sm, Bool.and_eq_true, decide_eq_true_eq]; exact ⟨hz, (sms_all _).mpr fun x m => (h x m).1⟩, ?_⟩
  rw [J.dpt]
  exact Nat.succ_le_succ ((dpts_le _).mpr fun x m => (h x m).2)
theorem gd_str {n m : Nat} {z : Str} (h : okS m z) (hm : m ≤ 1000) : gd n (.str z) := by
  refine ⟨?_, Nat.zero_le _⟩
  rw [sm, Bool.and_eq_true, decide_eq_true_eq]
  exact ⟨Array.all_eq_true'.mpr fun c m => decide_eq_true (h.1 c (by simpa using m)), Nat.le_trans h.2 hm⟩
theorem gd_non {n : Nat} : gd n .non := ⟨rfl, Nat.zero_le _⟩
theorem gd_bl {n : Nat} {b : Bool} : gd n (.bl b) := ⟨rfl, Nat.zero_le _⟩
theorem gd_int {n : Nat} {i : Int} : gd n (.int i) := ⟨rfl, Nat.zero_le _⟩
theorem isStr.gd {n m : Nat} {d : D} (h : isStr m d) (hm : m ≤ 1000) : K1.gd n d := by obtain ⟨z, rfl, o⟩ := h; exact gd_str o hm
theorem gd_five {n : Nat} {a b c d e : D} (ha : gd n a) (hb : gd n b) (hc : gd n c) (hd : gd n d) (he : gd n e) : gd (n + 1) (.tup [a, b, c, d, e]) := gd_tup (by simp) fun x m => by
  simp only [List.mem_cons, List.not_mem_nil, or_false] at m
  rcases m with rfl | rfl | rfl | rfl | rfl <;> assumption
theorem gd_two {n : Nat} {a b : D} (ha : gd n a) (hb : gd n b) : gd (n + 1) (.tup [a, b]) := gd_tup (by simp) fun x m => by
  simp only [List.mem_cons, List.not_mem_nil, or_false] at m
  rcases m with rfl | rfl <;> assumption
theorem gd_strs {n : Nat} {xs : List D} (h : ∀ d ∈ xs, isStr 40 d) (hz : xs.length ≤ 5000) : gd (n + 1) (.tup xs) := gd_tup hz fun x m => (h x m).gd (by decide)
def tg (n : Nat) (d : D) : Prop := ∃ xs, d = .tup xs ∧ gd n d
theorem srow.tg {d : D} (h : srow d) : tg 2 d := by
  obtain ⟨a, b, sp, s, us, rfl, oa, ob, o1, o2, l1, l2⟩ := h
  exact ⟨_, rfl, gd_five (n := 1) (gd_str oa (by decide)) (gd_str ob (by decide)) (gd_strs o1 (by omega)) gd_bl (gd_strs o2 (by omega))⟩
theorem prow.tg {d : D} (h : prow d) : tg 2 d := by
  obtain ⟨a, i, rfl, oa⟩ := h
  exact ⟨_, rfl, gd_two (n := 1) (gd_str oa (by decide)) gd_int⟩
section
variable {B : Int} {S : Store}
theorem build_ok {rows ps bl : List D} (F : Fd B S) (hB : B < 900000) (hr : ∀ r ∈ rows, srow r) (rn : rows ≠ []) (rz : rows.length ≤ 100) (hp : ∀ p ∈ ps, prow p) (pn : ps ≠ []) (pz : ps.length ≤ 100) (hb : ∀ b ∈ bl, isStr 40 b) (bn : bl ≠ []) (bz : bl.length ≤ 100) :
    ∃ d S', f__law_build [.obj 0, .tup [.tup rows, .tup ps], .lst bl] S = some (d, S') ∧ tg 2 d ∧ Fd (B + 20) S' := by
  obtain ⟨r, S1, q1, mr, F1⟩ := pick_t F (by omega) rn (by omega)
  obtain ⟨p, S2, q2, mp, F2⟩ := pick_t F1 (by omega) pn (by omega)
  obtain ⟨a, b, sp, s, us, rfl, oa, ob, o1, o2, l1, l2⟩ := hr r mr
  obtain ⟨c, i, rfl, oc⟩ := hp p mp
  obtain ⟨v, S3, q3, v0, v1, F3⟩ := draw_ok F2 (by omega) (m := 4) (by decide) (by decide)
  have w0 : gIx (.tup [.tup rows, .tup ps]) (.int 0) = some (.tup rows) := rfl
  have w1 : gIx (.tup [.tup rows, .tup ps]) (.int 1) = some (.tup ps) := rfl
  have x0 : gIx (.tup [.str c, .int i]) (.int 0) = some (.str c) := rfl
  have y0 : gIx (.tup [.str a, .str b, .tup sp, .bl s, .tup us]) (.int 0) = some (.str a) := rfl
  have y4 : gIx (.tup [.str a, .str b, .tup sp, .bl s, .tup us]) (.int 4) = some (.tup us) := rfl
  let ρ : J.Env := [.d (.obj 0), .d (.tup [.tup rows, .tup ps]), .d (.lst bl), .d (.tup [.str a, .str b, .tup sp, .bl s, .tup us]), .d (.tup [.str c, .int i]), .un, .un]
  have T1 : (sPar [3, 4] (mD (eCall f__law_pick (aC (eV 0) (aC (e2 gIx (eP 1) (eC (.int 0))) aN))) (mD (eCall f__law_pick (aC (eV 0) (aC (e2 gIx (eP 1) (eC (.int 1))) aN))) mN))) [.d (.obj 0), .d (.tup [.tup rows, .tup ps]), .d (.lst bl), .un, .un, .un, .un] S = some (.nx ρ, S2) := by
    simp only [runDef, sSeq, sNil, sRet, sIf, sSet, sSetL, sExt, sApp, sPar, sFreeze, sDrop, eC, eV, eP, e1, e2, l2, eL, aN, aC, aG, aGL, tOf, tAndJ, tOrJ, tNotJ, eAnd, eOr, eNot, eIf, eCh, tTru, gTru, eTup, lDisp, iOf, J.items?, iRg1, iRg2, cYes, bName, bTup, bCons, bNil, mN, mD, mO, setsS, eCall, gIsi, gIsi2, isT_tt, gLen, gI0, gLe_i, gGe_i, gGt_i, gLt_i, gAdd_i,  gListL, gTuple, eSl, oN, oS, List.map_cons, List.map_nil, List.map, List.replicate, List.length_cons, List.length_nil, List.nil_append, List.cons_append, List.append_nil, List.set_cons_zero, List.set_cons_succ, List.set, List.length, List.getElem?_cons_zero, List.getElem?_cons_succ, Nat.sub, Nat.reduceSub, Nat.reduceAdd, Nat.reduceLT, Nat.reduceLeDiff, List.getElem?_nil, Bool.false_eq_true, if_true, if_false, Bool.true_and, Bool.false_and, Bool.and_true, Bool.and_false, Bool.not_true, Bool.not_false, wipeE, sPar, w0, w1, q1, q2]
    rfl
  by_cases h : v = 0
  · obtain ⟨x, S4, q4, mx, F4⟩ := pick_l F3 (by omega) bn (by omega)
    obtain ⟨z, rfl, oz⟩ := hb x mx
    refine ⟨.tup [.str c, .non, .str a, .tup [], .str z], S4, ?_, ⟨_, rfl, gd_five (n := 1) (gd_str oc (by decide)) gd_non (gd_str oa (by decide)) (gd_tup (by simp) fun x m => by simp at m) (gd_str oz (by decide))⟩, F4.mono (by omega)⟩
    refine run_at ((seq_at T1).trans (seq_rt ?_))
    simp only [ρ, runDef, sSeq, sNil, sRet, sIf, sSet, sSetL, sExt, sApp, sPar, sFreeze, sDrop, eC, eV, eP, e1, e2, l2, eL, aN, aC, aG, aGL, tOf, tAndJ, tOrJ, tNotJ, eAnd, eOr, eNot, eIf, eCh, tTru, gTru, eTup, lDisp, iOf, J.items?, iRg1, iRg2, cYes, bName, bTup, bCons, bNil, mN, mD, mO, setsS, eCall, gIsi, gIsi2, isT_tt, gLen, gI0, gLe_i, gGe_i, gGt_i, gLt_i, gAdd_i,  gListL, gTuple, eSl, oN, oS, List.map_cons, List.map_nil, List.map, List.replicate, List.length_cons, List.length_nil, List.nil_append, List.cons_append, List.append_nil, List.set_cons_zero, List.set_cons_succ, List.set, List.length, List.getElem?_cons_zero, List.getElem?_cons_succ, Nat.sub, Nat.reduceSub, Nat.reduceAdd, Nat.reduceLT, Nat.reduceLeDiff, List.getElem?_nil, Bool.false_eq_true, if_true, if_false, Bool.true_and, Bool.false_and, Bool.and_true, Bool.and_false, Bool.not_true, Bool.not_false, wipeE, q3, gEq_i, h, show ((0 : Int) == 0) = true from rfl, q4, x0, y0, if_pos (sz (k := 5)), if_pos (sz (k := 0))]
  · obtain ⟨g, S4, C, og, lg, F4⟩ := picks_l (j := 6) (i := 2) (n := 40) (l := iOf (e2 gIx (eP 3) (eC (.int 4)))) (ρ := ρ) (S0 := S3) (S := S3) (xs := us) rfl rfl (by decide) (by decide) (by simp only [ρ, runDef, sSeq, sNil, sRet, sIf, sSet, sSetL, sExt, sApp, sPar, sFreeze, sDrop, eC, eV, eP, e1, e2, l2, eL, aN, aC, aG, aGL, tOf, tAndJ, tOrJ, tNotJ, eAnd, eOr, eNot, eIf, eCh, tTru, gTru, eTup, lDisp, iOf, J.items?, iRg1, iRg2, cYes, bName, bTup, bCons, bNil, mN, mD, mO, setsS, eCall, gIsi, gIsi2, isT_tt, gLen, gI0, gLe_i, gGe_i, gGt_i, gLt_i, gAdd_i,  gListL, gTuple, eSl, oN, oS, List.map_cons, List.map_nil, List.map, List.replicate, List.length_cons, List.length_nil, List.nil_append, List.cons_append, List.append_nil, List.set_cons_zero, List.set_cons_succ, List.set, List.length, List.getElem?_cons_zero, List.getElem?_cons_succ, Nat.sub, Nat.reduceSub, Nat.reduceAdd, Nat.reduceLT, Nat.reduceLeDiff, List.getElem?_nil, Bool.false_eq_true, if_true, if_false, Bool.true_and, Bool.false_and, Bool.and_true, Bool.and_false, Bool.not_true, Bool.not_false, wipeE, y4]) (by omega) F3 (by omega) hb (fun _ => bn) (by omega)
    obtain ⟨x, S5, q5, mx, F5⟩ := pick_l F4 (by omega) bn (by omega)
    obtain ⟨z, rfl, oz⟩ := hb x mx
    obtain ⟨x2, S6, q6, mx2, F6⟩ := pick_l F5 (by omega) bn (by omega)
    obtain ⟨z2, rfl, oz2⟩ := hb x2 mx2
    refine ⟨.tup [.str c, .str z, .str a, .tup g, .str z2], S6, ?_, ⟨_, rfl, gd_five (n := 1) (gd_str oc (by decide)) (gd_str oz (by decide)) (gd_str oa (by decide)) (gd_strs og (by omega)) (gd_str oz2 (by decide))⟩, F6.mono (by omega)⟩
    have T2 : ∀ g0, sIf (tOf (e2 (gEq false) (eCall f__law_draw (aC (eV 0) (aC (eC (.int 4)) aN))) (eC (.int 0)))) g0 sNil ρ S2 = some (.nx ρ, S3) := fun g0 => by
      simp only [ρ, runDef, sSeq, sNil, sRet, sIf, sSet, sSetL, sExt, sApp, sPar, sFreeze, sDrop, eC, eV, eP, e1, e2, l2, eL, aN, aC, aG, aGL, tOf, tAndJ, tOrJ, tNotJ, eAnd, eOr, eNot, eIf, eCh, tTru, gTru, eTup, lDisp, iOf, J.items?, iRg1, iRg2, cYes, bName, bTup, bCons, bNil, mN, mD, mO, setsS, eCall, gIsi, gIsi2, isT_tt, gLen, gI0, gLe_i, gGe_i, gGt_i, gLt_i, gAdd_i,  gListL, gTuple, eSl, oN, oS, List.map_cons, List.map_nil, List.map, List.replicate, List.length_cons, List.length_nil, List.nil_append, List.cons_append, List.append_nil, List.set_cons_zero, List.set_cons_succ, List.set, List.length, List.getElem?_cons_zero, List.getElem?_cons_succ, Nat.sub, Nat.reduceSub, Nat.reduceAdd, Nat.reduceLT, Nat.reduceLeDiff, List.getElem?_nil, Bool.false_eq_true, if_true, if_false, Bool.true_and, Bool.false_and, Bool.and_true, Bool.and_false, Bool.not_true, Bool.not_false, wipeE, q3, gEq_i, beq_eq_false_iff_ne.mpr h]
    have T3 := set_at (i := 5) (tup_at (eL_at C))
    refine run_at ((seq_at T1).trans ((seq_at (T2 _)).trans ((seq_at T3).trans (ret_at ?_))))
    simp only [ρ, runDef, sSeq, sNil, sRet, sIf, sSet, sSetL, sExt, sApp, sPar, sFreeze, sDrop, eC, eV, eP, e1, e2, l2, eL, aN, aC, aG, aGL, tOf, tAndJ, tOrJ, tNotJ, eAnd, eOr, eNot, eIf, eCh, tTru, gTru, eTup, lDisp, iOf, J.items?, iRg1, iRg2, cYes, bName, bTup, bCons, bNil, mN, mD, mO, setsS, eCall, gIsi, gIsi2, isT_tt, gLen, gI0, gLe_i, gGe_i, gGt_i, gLt_i, gAdd_i,  gListL, gTuple, eSl, oN, oS, List.map_cons, List.map_nil, List.map, List.replicate, List.length_cons, List.length_nil, List.nil_append, List.cons_append, List.append_nil, List.set_cons_zero, List.set_cons_succ, List.set, List.length, List.getElem?_cons_zero, List.getElem?_cons_succ, Nat.sub, Nat.reduceSub, Nat.reduceAdd, Nat.reduceLT, Nat.reduceLeDiff, List.getElem?_nil, Bool.false_eq_true, if_true, if_false, Bool.true_and, Bool.false_and, Bool.and_true, Bool.and_false, Bool.not_true, Bool.not_false, wipeE, q5, q6, x0, y0, if_pos (sz (k := 5))]
end
end K1

set_option maxHeartbeats 4000000
namespace K1
open PySem PySem.Spec PyProof.Rows L2 J
theorem strs_map : ∀ fs : List Str, J.strs? (fs.map D.str) = some fs
  | [] => rfl
  | x :: r => by rw [List.map_cons, J.strs?, strs_map r]; rfl
theorem sort_s {fs : List Str} (h : fs.length < 64) : gSortedS [.lst (fs.map D.str)] = some ((srt fs).map D.str) := by
  show (match J.strs? (fs.map D.str) with | some ys => if ys.length < 64 then some ((srt ys).map D.str) else none | none => none) = _
  rw [strs_map]
  exact if_pos h
theorem nums8 {ns : List Int} {v : Int} (h : ∀ n ∈ ns, 0 ≤ n ∧ n ≤ 16) (v0 : 0 ≤ v) (v1 : v < ns.length) : ∃ m : Nat, gIx (.lst (ns.map D.int)) (.int v) = some (.int (m : Int)) ∧ (m : Int) ∈ ns := by
  obtain ⟨k, rfl⟩ : ∃ k : Nat, v = (k : Int) := ⟨_, (Int.toNat_of_nonneg v0).symm⟩
  have hk : k < ns.length := by omega
  have a := h ns[k] (List.getElem_mem hk)
  refine ⟨ns[k].toNat, ?_, ?_⟩
  · rw [Int.toNat_of_nonneg a.1, gIx_lk (xs := ns.map D.int) (k := k) (by rw [List.length_map]; exact hk), List.getElem_map]
  · rw [Int.toNat_of_nonneg a.1]; exact List.getElem_mem hk
def bE (a b c d e : Slot) (prs fnd : Slot) (i m l u n : Slot) : J.Env := [.d (.obj 0), a, b, c, d, e, prs, fnd, i, m, l, u, n]
section
variable {B : Int} {S : Store} {a b c d e p f i m l u n : Slot}
/-- names whose number is drawn -/
theorem nn_ok {ns : List Int} (F : Fd B S) (hB : B < 700000) (hn : ∀ n ∈ ns, 0 ≤ n ∧ n ≤ 7) (hl : 0 < ns.length) (hl8 : ns.length ≤ 8) (lst : EL) (hlst : ∀ (ρ : J.Env) (S : Store), lst ρ S = some (ns.map D.int, S)) (dr : Int) (hdr : dr = (ns.length : Int)) :
    ∃ (ys : List Str) (S' : Store), eCall f__law_names (aC (eV 0) (aC (e2 gIx (eL lst) (eCall f__law_draw (aC (eV 0) (aC (eC (.int dr)) aN)))) aN)) (bE a b c d e p f i m l u n) S = some (.lst (ys.map D.str), S') ∧ (∀ y ∈ ys, okS 40 y) ∧ (ys.length : Int) ∈ ns ∧ ys.length ≤ 7 ∧ Fd (B + 201) S' := by
  subst hdr
  obtain ⟨v, S1, q1, v0, v1, F1⟩ := draw_ok F (by omega) (m := (ns.length : Int)) (by omega) (log_small (by omega) (by omega))
  obtain ⟨k, I, mk⟩ := nums8 (fun n mn => ⟨(hn n mn).1, by have := (hn n mn).2; omega⟩) v0 v1
  have k7 := (hn _ mk).2
  obtain ⟨ys, S2, q2, oy, ly, F2⟩ := names_ok (many := k) F1 (by omega) (by omega)
  refine ⟨ys, S2, ?_, oy, by rw [ly]; exact mk, by omega, F2.mono (by omega)⟩
  unfold bE
  simp only [runDef, sSeq, sNil, sRet, sIf, sSet, sSetL, sExt, sApp, sPar, sFreeze, sDrop, eC, eV, eP, e1, e2, l2, eL, aN, aC, aG, aGL, tOf, tAndJ, tOrJ, tNotJ, eAnd, eOr, eNot, eIf, eCh, tTru, gTru, eTup, lDisp, iOf, J.items?, iRg1, iRg2, cYes, bName, bTup, bCons, bNil, mN, mD, mO, setsS, eCall, gIsi, gIsi2, isT_tt, gLen, gI0, gLe_i, gGe_i, gGt_i, gLt_i, gAdd_i,  gListL, gTuple, eSl, oN, oS, List.map_cons, List.map_nil, List.map, List.replicate, List.length_cons, List.length_nil, List.nil_append, List.cons_append, List.append_nil, List.set_cons_zero, List.set_cons_succ, List.set, List.length, List.getElem?_cons_zero, List.getElem?_cons_succ, Nat.sub, Nat.reduceSub, Nat.reduceAdd, Nat.reduceLT, Nat.reduceLeDiff, List.getElem?_nil, Bool.false_eq_true, if_true, if_false, Bool.true_and, Bool.false_and, Bool.and_true, Bool.and_false, Bool.not_true, Bool.not_false, wipeE, hlst, q1, I, q2]
theorem nn_sort {ys : List Str} {f : EX} {ρ : J.Env} {S0 S' : Store} (h : f ρ S0 = some (.lst (ys.map D.str), S')) (hz : ys.length < 64) : eL (aGL gSortedS (aC f aN)) ρ S0 = some (.lst ((srt ys).map D.str), S') := by
  simp only [eL, aGL, aC, aN, h, sort_s hz]
theorem srt_all {k : Nat} {ys : List Str} (h : ∀ y ∈ ys, okS k y) : ∀ y ∈ (srt ys).map D.str, isStr k y := fun d m => by
  obtain ⟨z, mz, rfl⟩ := List.mem_map.mp m
  exact ⟨z, rfl, h z ((srt_perm _).mem_iff.mp mz)⟩
theorem srt_len (ys : List Str) : ((srt ys).map D.str).length = ys.length := by rw [List.length_map, (srt_perm _).length_eq]
theorem lD {xs : List D} (h : xs.length ≤ 100) (r : EL) (hr : ∀ (ρ : J.Env) (S : Store), r ρ S = some (xs, S)) : ∀ (ρ : J.Env) (S : Store), lDisp r ρ S = some (xs, S) := fun ρ S => by
  unfold lDisp; rw [hr]; exact if_pos (by rw [sizeLine_eq]; omega)
theorem blobs_ok {xs ys zs : List D} (F : Fd B S) (hB : B < 900000) (lx : xs.length ≤ 10) (ly : ys.length ≤ 10) (lz : zs.length ≤ 10) (hx : ∀ d ∈ xs, isStr 40 d) (hy : ∀ d ∈ ys, isStr 40 d) (hz : ∀ d ∈ zs, isStr 40 d) (ne : zs ≠ []) :
    ∃ bl S', sIf (tOf (e2 (gEq false) (eCall f__law_draw (aC (eV 0) (aC (eC (.int 4)) aN))) (eC (.int 0)))) (sSet (e2 gAdd (e2 gAdd (eP 3) (eP 1)) (eP 2)) (bName 3)) sNil (bE (.d (.lst xs)) (.d (.lst ys)) (.d (.lst zs)) d e p f i m l u n) S = some (.nx (bE (.d (.lst xs)) (.d (.lst ys)) (.d (.lst bl)) d e p f i m l u n), S') ∧ (∀ d ∈ bl, isStr 40 d) ∧ bl ≠ [] ∧ bl.length ≤ 30 ∧ Fd (B + 1) S' := by
  obtain ⟨v, S1, q1, v0, v1, F1⟩ := draw_ok F (by omega) (m := 4) (by decide) (by decide)
  by_cases h : v = 0
  · have g1 : gAdd (.lst zs) (.lst xs) = some (.lst (zs ++ xs)) := if_pos (by rw [sizeLine_eq]; omega)
    have g2 : gAdd (.lst (zs ++ xs)) (.lst ys) = some (.lst (zs ++ xs ++ ys)) := if_pos (by rw [sizeLine_eq, List.length_append]; omega)
    refine ⟨zs ++ xs ++ ys, S1, ?_, fun d m => ?_, fun z => ?_, by rw [List.length_append, List.length_append]; omega, F1⟩
    · unfold bE
      simp only [runDef, sSeq, sNil, sRet, sIf, sSet, sSetL, sExt, sApp, sPar, sFreeze, sDrop, eC, eV, eP, e1, e2, l2, eL, aN, aC, aG, aGL, tOf, tAndJ, tOrJ, tNotJ, eAnd, eOr, eNot, eIf, eCh, tTru, gTru, eTup, lDisp, iOf, J.items?, iRg1, iRg2, cYes, bName, bTup, bCons, bNil, mN, mD, mO, setsS, eCall, gIsi, gIsi2, isT_tt, gLen, gI0, gLe_i, gGe_i, gGt_i, gLt_i, gAdd_i,  gListL, gTuple, eSl, oN, oS, List.map_cons, List.map_nil, List.map, List.replicate, List.length_cons, List.length_nil, List.nil_append, List.cons_append, List.append_nil, List.set_cons_zero, List.set_cons_succ, List.set, List.length, List.getElem?_cons_zero, List.getElem?_cons_succ, Nat.sub, Nat.reduceSub, Nat.reduceAdd, Nat.reduceLT, Nat.reduceLeDiff, List.getElem?_nil, Bool.false_eq_true, if_true, if_false, Bool.true_and, Bool.false_and, Bool.and_true, Bool.and_false, Bool.not_true, Bool.not_false, wipeE, q1, gEq_i, h, show ((0 : Int) == 0) = true from rfl, g1, g2]
    · rcases List.mem_append.mp m with m | m
      · rcases List.mem_append.mp m with m | m
        · exact hz d m
        · exact hx d m
      · exact hy d m
    · have := congrArg List.length z
      rw [List.length_append, List.length_append, List.length_nil] at this
      have p := List.length_pos_iff.mpr ne
      omega
  · refine ⟨zs, S1, ?_, hz, ne, by omega, F1⟩
    unfold bE
    simp only [runDef, sSeq, sNil, sRet, sIf, sSet, sSetL, sExt, sApp, sPar, sFreeze, sDrop, eC, eV, eP, e1, e2, l2, eL, aN, aC, aG, aGL, tOf, tAndJ, tOrJ, tNotJ, eAnd, eOr, eNot, eIf, eCh, tTru, gTru, eTup, lDisp, iOf, J.items?, iRg1, iRg2, cYes, bName, bTup, bCons, bNil, mN, mD, mO, setsS, eCall, gIsi, gIsi2, isT_tt, gLen, gI0, gLe_i, gGe_i, gGt_i, gLt_i, gAdd_i,  gListL, gTuple, eSl, oN, oS, List.map_cons, List.map_nil, List.map, List.replicate, List.length_cons, List.length_nil, List.nil_append, List.cons_append, List.append_nil, List.set_cons_zero, List.set_cons_succ, List.set, List.length, List.getElem?_cons_zero, List.getElem?_cons_succ, Nat.sub, Nat.reduceSub, Nat.reduceAdd, Nat.reduceLT, Nat.reduceLeDiff, List.getElem?_nil, Bool.false_eq_true, if_true, if_false, Bool.true_and, Bool.false_and, Bool.and_true, Bool.and_false, Bool.not_true, Bool.not_false, wipeE, q1, gEq_i, beq_eq_false_iff_ne.mpr h]
/-- the parties -/
theorem folk_ok {ys : List D} (F : Fd B S) (hB : B < 800000) (ly : ys.length ≤ 10) (hy : ∀ d ∈ ys, isStr 40 d) :
    ∃ ps S', lComp [12] (iOf (eP 2)) (bName 12) cYes (eTup (aC (eV 12) (aC (eCall f__law_weight (aC (eV 0) aN)) aN))) (bE a (.d (.lst ys)) c d e p f i m l u n) S = some (ps, S') ∧ (∀ d ∈ ps, prow d) ∧ ps.length = ys.length ∧ Fd (B + 3 * ys.length) S' := by
  refine lComp_each (P := prow) (k := 3) (N := B + 3 * ys.length) (by decide) (by unfold bE; simp only [runDef, sSeq, sNil, sRet, sIf, sSet, sSetL, sExt, sApp, sPar, sFreeze, sDrop, eC, eV, eP, e1, e2, l2, eL, aN, aC, aG, aGL, tOf, tAndJ, tOrJ, tNotJ, eAnd, eOr, eNot, eIf, eCh, tTru, gTru, eTup, lDisp, iOf, J.items?, iRg1, iRg2, cYes, bName, bTup, bCons, bNil, mN, mD, mO, setsS, eCall, gIsi, gIsi2, isT_tt, gLen, gI0, gLe_i, gGe_i, gGt_i, gLt_i, gAdd_i,  gListL, gTuple, eSl, oN, oS, List.map_cons, List.map_nil, List.map, List.replicate, List.length_cons, List.length_nil, List.nil_append, List.cons_append, List.append_nil, List.set_cons_zero, List.set_cons_succ, List.set, List.length, List.getElem?_cons_zero, List.getElem?_cons_succ, Nat.sub, Nat.reduceSub, Nat.reduceAdd, Nat.reduceLT, Nat.reduceLeDiff, List.getElem?_nil, Bool.false_eq_true, if_true, if_false, Bool.true_and, Bool.false_and, Bool.and_true, Bool.and_false, Bool.not_true, Bool.not_false, wipeE]) (by omega) F (Int.le_refl _) fun x mx B' S' F' hB' => ?_
  obtain ⟨z, rfl, oz⟩ := hy x mx
  obtain ⟨w, S1, q, F1⟩ := weight_ok F' (by omega)
  refine ⟨_, rfl, .tup [.str z, .int w], S1, ?_, ⟨z, w, rfl, oz⟩, F1⟩
  unfold bE
  simp only [runDef, sSeq, sNil, sRet, sIf, sSet, sSetL, sExt, sApp, sPar, sFreeze, sDrop, eC, eV, eP, e1, e2, l2, eL, aN, aC, aG, aGL, tOf, tAndJ, tOrJ, tNotJ, eAnd, eOr, eNot, eIf, eCh, tTru, gTru, eTup, lDisp, iOf, J.items?, iRg1, iRg2, cYes, bName, bTup, bCons, bNil, mN, mD, mO, setsS, eCall, gIsi, gIsi2, isT_tt, gLen, gI0, gLe_i, gGe_i, gGt_i, gLt_i, gAdd_i,  gListL, gTuple, eSl, oN, oS, List.map_cons, List.map_nil, List.map, List.replicate, List.length_cons, List.length_nil, List.nil_append, List.cons_append, List.append_nil, List.set_cons_zero, List.set_cons_succ, List.set, List.length, List.getElem?_cons_zero, List.getElem?_cons_succ, Nat.sub, Nat.reduceSub, Nat.reduceAdd, Nat.reduceLT, Nat.reduceLeDiff, List.getElem?_nil, Bool.false_eq_true, if_true, if_false, Bool.true_and, Bool.false_and, Bool.and_true, Bool.and_false, Bool.not_true, Bool.not_false, wipeE, q, if_pos (sz (k := 2))]
end
def P8b : GS := (sExt 6 (eL (lComp [12] (iOf (eSl (eP 1) (oS (e2 gAdd (eP 8) (eC (.int 1)))) oN)) (bName 12) (tOf (e2 (gEq false) (eCall f__law_draw (aC (eV 0) (aC (eC (.int 3)) aN))) (eC (.int 0)))) (eTup (aC (e2 gIx (eP 1) (eP 8)) (aC (eV 12) aN))))))
def pI (xs : List D) (b c d e f m l u : Slot) (k : Nat) (ρ : J.Env) : Prop := ∃ (prs : List D) (i n : Slot), ρ = bE (.d (.lst xs)) b c d e (.own prs) f i m l u n ∧ (∀ x ∈ prs, tg 2 x) ∧ prs.length ≤ 10 * k
theorem cutD_mem {xs : List D} {lo hi : Option Int} {x : D} (h : x ∈ J.cutD xs lo hi) : x ∈ xs := List.mem_of_mem_drop (List.mem_of_mem_take h)
theorem cutD_len {xs : List D} {lo hi : Option Int} : (J.cutD xs lo hi).length ≤ xs.length := by unfold J.cutD; rw [List.length_take, List.length_drop]; omega
section
variable {B : Int} {S : Store} {b c d e f m l u : Slot}
theorem p_step {xs : List D} {k j : Nat} {ρ : J.Env} (F : Fd B S) (hB : B < 900000) (lx : xs.length ≤ 10) (hx : ∀ d ∈ xs, isStr 40 d) (hj : j < xs.length) (hk : k < 10) (i : pI xs b c d e f m l u k ρ) :
    ∃ ρ1, bName 8 (.int (j : Int)) ρ = some ρ1 ∧ ∃ ρ2 S2, P8b ρ1 S = some (.nx ρ2, S2) ∧ pI xs b c d e f m l u (k + 1) ρ2 ∧ Fd (B + 10) S2 := by
  obtain ⟨prs, i, n, rfl, hp, lp⟩ := i
  obtain ⟨nm, en, on⟩ := hx xs[j] (List.getElem_mem hj)
  have I : gIx (.lst xs) (.int (j : Int)) = some (.str nm) := by rw [gIx_lk hj, en]
  have L : iOf (eSl (eP 1) (oS (e2 gAdd (eP 8) (eC (.int 1)))) oN) (bE (.d (.lst xs)) b c d e (.own prs) f (.d (.int (j : Int))) m l u n) S = some (J.cutD xs (some ((j : Int) + 1)) none, S) := by
    unfold bE; simp only [runDef, sSeq, sNil, sRet, sIf, sSet, sSetL, sExt, sApp, sPar, sFreeze, sDrop, eC, eV, eP, e1, e2, l2, eL, aN, aC, aG, aGL, tOf, tAndJ, tOrJ, tNotJ, eAnd, eOr, eNot, eIf, eCh, tTru, gTru, eTup, lDisp, iOf, J.items?, iRg1, iRg2, cYes, bName, bTup, bCons, bNil, mN, mD, mO, setsS, eCall, gIsi, gIsi2, isT_tt, gLen, gI0, gLe_i, gGe_i, gGt_i, gLt_i, gAdd_i,  gListL, gTuple, eSl, oN, oS, List.map_cons, List.map_nil, List.map, List.replicate, List.length_cons, List.length_nil, List.nil_append, List.cons_append, List.append_nil, List.set_cons_zero, List.set_cons_succ, List.set, List.length, List.getElem?_cons_zero, List.getElem?_cons_succ, Nat.sub, Nat.reduceSub, Nat.reduceAdd, Nat.reduceLT, Nat.reduceLeDiff, List.getElem?_nil, Bool.false_eq_true, if_true, if_false, Bool.true_and, Bool.false_and, Bool.and_true, Bool.and_false, Bool.not_true, Bool.not_false, wipeE, gSl]
  have lc := cutD_len (xs := xs) (lo := some ((j : Int) + 1)) (hi := none)
  obtain ⟨ys, S', C, o, ly, F'⟩ := lComp_inv (P := tg 2) (k := 1) (N := B + 1 * (J.cutD xs (some ((j : Int) + 1)) none).length) (vs := [12]) (bd := bName 12) (cond := tOf (e2 (gEq false) (eCall f__law_draw (aC (eV 0) (aC (eC (.int 3)) aN))) (eC (.int 0)))) (elt := eTup (aC (e2 gIx (eP 1) (eP 8)) (aC (eV 12) aN))) (by decide) L (by omega) F (Int.le_refl _) fun x mx B' S' F' hB' => by
    obtain ⟨z, rfl, oz⟩ := hx x (cutD_mem mx)
    obtain ⟨v, S1, q1, v0, v1, F1⟩ := draw_ok F' (show B' < 1000000000 by omega) (m := 3) (by decide) (by decide)
    refine ⟨_, rfl, v == 0, S1, ?_, F1, fun _ => ⟨.tup [.str nm, .str z], S1, ?_, ⟨_, rfl, gd_two (n := 1) (gd_str on (by decide)) (gd_str oz (by decide))⟩, F1⟩⟩
    · unfold bE
      simp only [runDef, sSeq, sNil, sRet, sIf, sSet, sSetL, sExt, sApp, sPar, sFreeze, sDrop, eC, eV, eP, e1, e2, l2, eL, aN, aC, aG, aGL, tOf, tAndJ, tOrJ, tNotJ, eAnd, eOr, eNot, eIf, eCh, tTru, gTru, eTup, lDisp, iOf, J.items?, iRg1, iRg2, cYes, bName, bTup, bCons, bNil, mN, mD, mO, setsS, eCall, gIsi, gIsi2, isT_tt, gLen, gI0, gLe_i, gGe_i, gGt_i, gLt_i, gAdd_i,  gListL, gTuple, eSl, oN, oS, List.map_cons, List.map_nil, List.map, List.replicate, List.length_cons, List.length_nil, List.nil_append, List.cons_append, List.append_nil, List.set_cons_zero, List.set_cons_succ, List.set, List.length, List.getElem?_cons_zero, List.getElem?_cons_succ, Nat.sub, Nat.reduceSub, Nat.reduceAdd, Nat.reduceLT, Nat.reduceLeDiff, List.getElem?_nil, Bool.false_eq_true, if_true, if_false, Bool.true_and, Bool.false_and, Bool.and_true, Bool.and_false, Bool.not_true, Bool.not_false, wipeE, q1, gEq_i]
    · unfold bE
      simp only [runDef, sSeq, sNil, sRet, sIf, sSet, sSetL, sExt, sApp, sPar, sFreeze, sDrop, eC, eV, eP, e1, e2, l2, eL, aN, aC, aG, aGL, tOf, tAndJ, tOrJ, tNotJ, eAnd, eOr, eNot, eIf, eCh, tTru, gTru, eTup, lDisp, iOf, J.items?, iRg1, iRg2, cYes, bName, bTup, bCons, bNil, mN, mD, mO, setsS, eCall, gIsi, gIsi2, isT_tt, gLen, gI0, gLe_i, gGe_i, gGt_i, gLt_i, gAdd_i,  gListL, gTuple, eSl, oN, oS, List.map_cons, List.map_nil, List.map, List.replicate, List.length_cons, List.length_nil, List.nil_append, List.cons_append, List.append_nil, List.set_cons_zero, List.set_cons_succ, List.set, List.length, List.getElem?_cons_zero, List.getElem?_cons_succ, Nat.sub, Nat.reduceSub, Nat.reduceAdd, Nat.reduceLT, Nat.reduceLeDiff, List.getElem?_nil, Bool.false_eq_true, if_true, if_false, Bool.true_and, Bool.false_and, Bool.and_true, Bool.and_false, Bool.not_true, Bool.not_false, wipeE, I, if_pos (sz (k := 2))]
  refine ⟨_, rfl, bE (.d (.lst xs)) b c d e (.own (prs ++ ys)) f (.d (.int (j : Int))) m l u n, S', ?_, ⟨prs ++ ys, _, _, rfl, fun x m => (List.mem_append.mp m).elim (hp x) (o x), by rw [List.length_append]; omega⟩, F'.mono (by omega)⟩
  have h6 : sExt 6 (eL (lComp [12] (iOf (eSl (eP 1) (oS (e2 gAdd (eP 8) (eC (.int 1)))) oN)) (bName 12) (tOf (e2 (gEq false) (eCall f__law_draw (aC (eV 0) (aC (eC (.int 3)) aN))) (eC (.int 0)))) (eTup (aC (e2 gIx (eP 1) (eP 8)) (aC (eV 12) aN))))) (bE (.d (.lst xs)) b c d e (.own prs) f (.d (.int (j : Int))) m l u n) S = some (.nx (bE (.d (.lst xs)) b c d e (.own (prs ++ ys)) f (.d (.int (j : Int))) m l u n), S') := by
    unfold sExt
    rw [show (bE (.d (.lst xs)) b c d e (.own prs) f (.d (.int (j : Int))) m l u n)[6]? = some (.own prs) from rfl]
    simp only
    rw [eL_at C]
    simp only
    rw [if_pos (by rw [sizeLine_eq]; omega)]
    rfl
  exact h6
end
end K1

set_option maxHeartbeats 4000000
namespace K1
open PySem PySem.Spec PyProof.Rows L2 J
section
variable {B : Int} {S : Store} {a b c d e f i m l u n p : Slot}
def B10 : GS := sSeq (sSet (eCall f__law_build (aC (eV 0) (aC (eV 5) (aC (eV 3) aN)))) (bName 11)) (sIf (tOf (e2 (gIn true) (eP 11) (eP 7))) (sApp 7 (eV 11)) sNil)
def bI (a b d p i m n : Slot) (bl rows ps : List D) (k : Nat) (ρ : J.Env) : Prop := ∃ (fnd : List D) (l u : Slot), ρ = bE a b (.d (.lst bl)) d (.d (.tup [.tup rows, .tup ps])) p (.own fnd) i m l u n ∧ (∀ x ∈ fnd, tg 2 x) ∧ fnd.length ≤ k
theorem tgs_good {n : Nat} {xs : List D} (h : ∀ x ∈ xs, tg n x) : goods xs = true ∧ dpts xs ≤ n := ⟨(goods_all _).mpr fun x m => by obtain ⟨_, _, g, _⟩ := h x m; exact sm_good _ g, (dpts_le _).mpr fun x m => by obtain ⟨_, _, _, g⟩ := h x m; exact g⟩
theorem b_step {bl rows ps : List D} {k : Nat} {ρ : J.Env} {x : D} (F : Fd B S) (hB : B < 900000) (hr : ∀ r ∈ rows, srow r) (rn : rows ≠ []) (rz : rows.length ≤ 100) (hp : ∀ p ∈ ps, prow p) (pn : ps ≠ []) (pz : ps.length ≤ 100) (hb : ∀ b ∈ bl, isStr 40 b) (bn : bl ≠ []) (bz : bl.length ≤ 100) (hk : k < 100) (i0 : bI a b d p i m n bl rows ps k ρ) :
    ∃ ρ1, bName 10 x ρ = some ρ1 ∧ ∃ ρ2 S2, B10 ρ1 S = some (.nx ρ2, S2) ∧ bI a b d p i m n bl rows ps (k + 1) ρ2 ∧ Fd (B + 20) S2 := by
  obtain ⟨fnd, l, u, rfl, hf, lf⟩ := i0
  obtain ⟨y, S1, q1, ty, F1⟩ := build_ok F hB hr rn rz hp pn pz hb bn bz
  obtain ⟨zs, rfl, gy, dy⟩ := id ty
  have gf := tgs_good hf
  obtain ⟨t, G⟩ := gIn_l (neg := true) (x := .tup zs) (sm_good _ gy) (by omega) gf.1 (by omega) fun _ _ => True.intro
  have T1 : sSet (eCall f__law_build (aC (eV 0) (aC (eV 5) (aC (eV 3) aN)))) (bName 11) (bE a b (.d (.lst bl)) d (.d (.tup [.tup rows, .tup ps])) p (.own fnd) i m (.d x) u n) S = some (.nx (bE a b (.d (.lst bl)) d (.d (.tup [.tup rows, .tup ps])) p (.own fnd) i m (.d x) (.d (.tup zs)) n), S1) := by
    unfold bE; simp only [runDef, sSeq, sNil, sRet, sIf, sSet, sSetL, sExt, sApp, sPar, sFreeze, sDrop, eC, eV, eP, e1, e2, l2, eL, aN, aC, aG, aGL, tOf, tAndJ, tOrJ, tNotJ, eAnd, eOr, eNot, eIf, eCh, tTru, gTru, eTup, lDisp, iOf, J.items?, iRg1, iRg2, cYes, bName, bTup, bCons, bNil, mN, mD, mO, setsS, eCall, gIsi, gIsi2, isT_tt, gLen, gI0, gLe_i, gGe_i, gGt_i, gLt_i, gAdd_i,  gListL, gTuple, eSl, oN, oS, List.map_cons, List.map_nil, List.map, List.replicate, List.length_cons, List.length_nil, List.nil_append, List.cons_append, List.append_nil, List.set_cons_zero, List.set_cons_succ, List.set, List.length, List.getElem?_cons_zero, List.getElem?_cons_succ, Nat.sub, Nat.reduceSub, Nat.reduceAdd, Nat.reduceLT, Nat.reduceLeDiff, List.getElem?_nil, Bool.false_eq_true, if_true, if_false, Bool.true_and, Bool.false_and, Bool.and_true, Bool.and_false, Bool.not_true, Bool.not_false, wipeE, q1]
  cases t with
  | true =>
    refine ⟨_, rfl, bE a b (.d (.lst bl)) d (.d (.tup [.tup rows, .tup ps])) p (.own (fnd ++ [.tup zs])) i m (.d x) (.d (.tup zs)) n, S1, (seq_at T1).trans ?_, ⟨fnd ++ [.tup zs], _, _, rfl, fun w mw => (List.mem_append.mp mw).elim (hf w) fun mw => by rw [List.mem_singleton.mp mw]; exact ty, by rw [List.length_append, List.length_singleton]; omega⟩, F1⟩
    unfold bE
    simp only [runDef, sSeq, sNil, sRet, sIf, sSet, sSetL, sExt, sApp, sPar, sFreeze, sDrop, eC, eV, eP, e1, e2, l2, eL, aN, aC, aG, aGL, tOf, tAndJ, tOrJ, tNotJ, eAnd, eOr, eNot, eIf, eCh, tTru, gTru, eTup, lDisp, iOf, J.items?, iRg1, iRg2, cYes, bName, bTup, bCons, bNil, mN, mD, mO, setsS, eCall, gIsi, gIsi2, isT_tt, gLen, gI0, gLe_i, gGe_i, gGt_i, gLt_i, gAdd_i,  gListL, gTuple, eSl, oN, oS, List.map_cons, List.map_nil, List.map, List.replicate, List.length_cons, List.length_nil, List.nil_append, List.cons_append, List.append_nil, List.set_cons_zero, List.set_cons_succ, List.set, List.length, List.getElem?_cons_zero, List.getElem?_cons_succ, Nat.sub, Nat.reduceSub, Nat.reduceAdd, Nat.reduceLT, Nat.reduceLeDiff, List.getElem?_nil, Bool.false_eq_true, if_true, if_false, Bool.true_and, Bool.false_and, Bool.and_true, Bool.and_false, Bool.not_true, Bool.not_false, wipeE, G, if_pos (show fnd.length < sizeLine by rw [sizeLine_eq]; omega)]
  | false =>
    refine ⟨_, rfl, bE a b (.d (.lst bl)) d (.d (.tup [.tup rows, .tup ps])) p (.own fnd) i m (.d x) (.d (.tup zs)) n, S1, (seq_at T1).trans ?_, ⟨fnd, _, _, rfl, hf, by omega⟩, F1⟩
    unfold bE
    simp only [runDef, sSeq, sNil, sRet, sIf, sSet, sSetL, sExt, sApp, sPar, sFreeze, sDrop, eC, eV, eP, e1, e2, l2, eL, aN, aC, aG, aGL, tOf, tAndJ, tOrJ, tNotJ, eAnd, eOr, eNot, eIf, eCh, tTru, gTru, eTup, lDisp, iOf, J.items?, iRg1, iRg2, cYes, bName, bTup, bCons, bNil, mN, mD, mO, setsS, eCall, gIsi, gIsi2, isT_tt, gLen, gI0, gLe_i, gGe_i, gGt_i, gLt_i, gAdd_i,  gListL, gTuple, eSl, oN, oS, List.map_cons, List.map_nil, List.map, List.replicate, List.length_cons, List.length_nil, List.nil_append, List.cons_append, List.append_nil, List.set_cons_zero, List.set_cons_succ, List.set, List.length, List.getElem?_cons_zero, List.getElem?_cons_succ, Nat.sub, Nat.reduceSub, Nat.reduceAdd, Nat.reduceLT, Nat.reduceLeDiff, List.getElem?_nil, Bool.false_eq_true, if_true, if_false, Bool.true_and, Bool.false_and, Bool.and_true, Bool.and_false, Bool.not_true, Bool.not_false, wipeE, G]
theorem emp {xs : List D} (h : xs ≠ []) : xs.isEmpty = false := by
  cases xs with
  | nil => exact absurd rfl h
  | cons x r => rfl
theorem tup2_at {f g : EX} {ρ : J.Env} {S S1 S2 : Store} {x y : D} (h1 : f ρ S = some (x, S1)) (h2 : g ρ S1 = some (y, S2)) : eTup (aC f (aC g aN)) ρ S = some (.tup [x, y], S2) := by
  simp only [eTup, aC, aN, h1, h2]
  exact if_pos (sz (k := 2))
theorem ne_flag {xs : List D} (h : ∀ d ∈ xs, isStr 40 d) : gEq true (.lst xs) (.lst []) = some (.bl (!xs.isEmpty)) := by
  have N := gEq_nil (neg := true) (str_goods h (by decide)) (str_dpts h)
  simpa using N
theorem book_ok (F : Fd B S) (hB : B < 100000) : ∃ rows ps prs bs S', f__law_book [.obj 0] S = some (.tup [.tup rows, .tup ps, .tup prs, .tup bs], S') ∧ (∀ x ∈ rows, tg 2 x) ∧ (∀ x ∈ ps, tg 2 x) ∧ (∀ x ∈ prs, tg 2 x) ∧ (∀ x ∈ bs, tg 2 x) ∧ rows.length ≤ 100 ∧ ps.length ≤ 100 ∧ prs.length ≤ 100 ∧ bs.length ≤ 100 ∧ Fd (B + 5000) S' := by
  obtain ⟨y1, S1, q1, o1, m1, l1, F1⟩ := nn_ok (a := .un) (b := .un) (c := .un) (d := .un) (e := .un) (p := .un) (f := .un) (i := .un) (m := .un) (l := .un) (u := .un) (n := .un) (ns := [2, 3, 1, 4, 2, 6, 0, 3]) F (by omega) (by decide) (by decide) (by decide) (lDisp (aC (eC (.int 2)) (aC (eC (.int 3)) (aC (eC (.int 1)) (aC (eC (.int 4)) (aC (eC (.int 2)) (aC (eC (.int 6)) (aC (eC (.int 0)) (aC (eC (.int 3)) aN))))))))) (lD (by simp) _ fun _ _ => rfl) 8 rfl
  have T1 := set_at (i := 1) (nn_sort q1 (by omega))
  have w1 := srt_all o1
  have z1 := srt_len y1
  obtain ⟨y2, S2, q2, o2, m2, l2, F2⟩ := nn_ok (a := .d (.lst ((srt y1).map D.str))) (b := .un) (c := .un) (d := .un) (e := .un) (p := .un) (f := .un) (i := .un) (m := .un) (l := .un) (u := .un) (n := .un) (ns := [2, 3, 1, 5, 2, 0, 4, 3]) F1 (by omega) (by decide) (by decide) (by decide) (lDisp (aC (eC (.int 2)) (aC (eC (.int 3)) (aC (eC (.int 1)) (aC (eC (.int 5)) (aC (eC (.int 2)) (aC (eC (.int 0)) (aC (eC (.int 4)) (aC (eC (.int 3)) aN))))))))) (lD (by simp) _ fun _ _ => rfl) 8 rfl
  have T2 := set_at (i := 2) (nn_sort q2 (by omega))
  have w2 := srt_all o2
  have z2 := srt_len y2
  generalize (srt y1).map D.str = xs at *
  generalize (srt y2).map D.str = ys at *
  obtain ⟨y3, S3, q3, o3, m3, l3, F3⟩ := nn_ok (a := .d (.lst xs)) (b := .d (.lst ys)) (c := .un) (d := .un) (e := .un) (p := .un) (f := .un) (i := .un) (m := .un) (l := .un) (u := .un) (n := .un) (ns := [3, 5, 1, 7]) F2 (by omega) (by decide) (by decide) (by decide) (lDisp (aC (eC (.int 3)) (aC (eC (.int 5)) (aC (eC (.int 1)) (aC (eC (.int 7)) aN))))) (lD (by simp) _ fun _ _ => rfl) 4 rfl
  have T3 := set_at (i := 3) q3
  have n3 : y3.map D.str ≠ [] := fun z => by
    have : y3 = [] := List.map_eq_nil_iff.mp z
    rw [this] at m3
    simp at m3
  obtain ⟨bl, S4, T4, ob, nb, lb, F4⟩ := blobs_ok (d := .un) (e := .un) (p := .un) (f := .un) (i := .un) (m := .un) (l := .un) (u := .un) (n := .un) (xs := xs) (ys := ys) (zs := y3.map D.str) F3 (by omega) (by omega) (by omega) (by rw [List.length_map]; omega) w1 w2 (strs_is o3) n3
  -- the sources
  obtain ⟨v, S5, q5, v0, v1, F5⟩ := draw_ok F4 (by omega) (m := 3) (by decide) (by decide)
  obtain ⟨k, rfl⟩ : ∃ k : Nat, v = (k : Int) := ⟨_, (Int.toNat_of_nonneg v0).symm⟩
  obtain ⟨y6, S6, q6, o6, l6, F6⟩ := names_ok (many := 1 + k) F5 (by omega) (by omega)
  have n6 : y6.map D.str ≠ [] := fun z => by
    have : y6 = [] := List.map_eq_nil_iff.mp z
    rw [this] at l6
    simp at l6
    omega
  obtain ⟨rows, S7, q7, or', lr, F7⟩ := sources_ok (ns := xs) (ts := y6.map D.str) F6 (by omega) w1 (by omega) (strs_is o6) (by rw [List.length_map]; omega) n6
  have T5 : sSet (eCall f__law_sources (aC (eV 0) (aC (eV 1) (aC (eCall f__law_names (aC (eV 0) (aC (e2 gAdd (eC (.int 1)) (eCall f__law_draw (aC (eV 0) (aC (eC (.int 3)) aN)))) aN))) aN)))) (bName 4) (bE (.d (.lst xs)) (.d (.lst ys)) (.d (.lst bl)) .un .un .un .un .un .un .un .un .un) S4 = some (.nx (bE (.d (.lst xs)) (.d (.lst ys)) (.d (.lst bl)) (.d (.tup rows)) .un .un .un .un .un .un .un .un), S7) := by
    have e1 : ((1 + k : Nat) : Int) = 1 + (k : Int) := by omega
    rw [e1] at q6
    unfold bE
    simp only [runDef, sSeq, sNil, sRet, sIf, sSet, sSetL, sExt, sApp, sPar, sFreeze, sDrop, eC, eV, eP, e1, e2, l2, eL, aN, aC, aG, aGL, tOf, tAndJ, tOrJ, tNotJ, eAnd, eOr, eNot, eIf, eCh, tTru, gTru, eTup, lDisp, iOf, J.items?, iRg1, iRg2, cYes, bName, bTup, bCons, bNil, mN, mD, mO, setsS, eCall, gIsi, gIsi2, isT_tt, gLen, gI0, gLe_i, gGe_i, gGt_i, gLt_i, gAdd_i,  gListL, gTuple, eSl, oN, oS, List.map_cons, List.map_nil, List.map, List.replicate, List.length_cons, List.length_nil, List.nil_append, List.cons_append, List.append_nil, List.set_cons_zero, List.set_cons_succ, List.set, List.length, List.getElem?_cons_zero, List.getElem?_cons_succ, Nat.sub, Nat.reduceSub, Nat.reduceAdd, Nat.reduceLT, Nat.reduceLeDiff, List.getElem?_nil, Bool.false_eq_true, if_true, if_false, Bool.true_and, Bool.false_and, Bool.and_true, Bool.and_false, Bool.not_true, Bool.not_false, wipeE, q5, q6, q7]
  -- the parties
  obtain ⟨ps, S8, C8, op, lp, F8⟩ := folk_ok (a := .d (.lst xs)) (c := .d (.lst bl)) (d := .d (.tup rows)) (e := .un) (p := .un) (f := .un) (i := .un) (m := .un) (l := .un) (u := .un) (n := .un) (ys := ys) F7 (by omega) (by omega) w2
  have T6 : sSet (eTup (aC (eV 4) (aC (aG gTuple (aC (eL (lComp [12] (iOf (eP 2)) (bName 12) cYes (eTup (aC (eV 12) (aC (eCall f__law_weight (aC (eV 0) aN)) aN))))) aN)) aN))) (bName 5) (bE (.d (.lst xs)) (.d (.lst ys)) (.d (.lst bl)) (.d (.tup rows)) .un .un .un .un .un .un .un .un) S7 = some (.nx (bE (.d (.lst xs)) (.d (.lst ys)) (.d (.lst bl)) (.d (.tup rows)) (.d (.tup [.tup rows, .tup ps])) .un .un .un .un .un .un .un), S8) := by
    exact set_at (i := 5) (tup2_at (show eV 4 (bE (.d (.lst xs)) (.d (.lst ys)) (.d (.lst bl)) (.d (.tup rows)) .un .un .un .un .un .un .un .un) S7 = some (.tup rows, S7) from rfl) (tup_at (eL_at C8)))
  have T7 : sPar [6, 7] (mO (lDisp aN) (mO (lDisp aN) mN)) (bE (.d (.lst xs)) (.d (.lst ys)) (.d (.lst bl)) (.d (.tup rows)) (.d (.tup [.tup rows, .tup ps])) .un .un .un .un .un .un .un) S8 = some (.nx (bE (.d (.lst xs)) (.d (.lst ys)) (.d (.lst bl)) (.d (.tup rows)) (.d (.tup [.tup rows, .tup ps])) (.own []) (.own []) .un .un .un .un .un), S8) := by
    unfold bE
    simp only [runDef, sSeq, sNil, sRet, sIf, sSet, sSetL, sExt, sApp, sPar, sFreeze, sDrop, eC, eV, eP, e1, e2, l2, eL, aN, aC, aG, aGL, tOf, tAndJ, tOrJ, tNotJ, eAnd, eOr, eNot, eIf, eCh, tTru, gTru, eTup, lDisp, iOf, J.items?, iRg1, iRg2, cYes, bName, bTup, bCons, bNil, mN, mD, mO, setsS, eCall, gIsi, gIsi2, isT_tt, gLen, gI0, gLe_i, gGe_i, gGt_i, gLt_i, gAdd_i,  gListL, gTuple, eSl, oN, oS, List.map_cons, List.map_nil, List.map, List.replicate, List.length_cons, List.length_nil, List.nil_append, List.cons_append, List.append_nil, List.set_cons_zero, List.set_cons_succ, List.set, List.length, List.getElem?_cons_zero, List.getElem?_cons_succ, Nat.sub, Nat.reduceSub, Nat.reduceAdd, Nat.reduceLT, Nat.reduceLeDiff, List.getElem?_nil, Bool.false_eq_true, if_true, if_false, Bool.true_and, Bool.false_and, Bool.and_true, Bool.and_false, Bool.not_true, Bool.not_false, wipeE, sPar, if_pos (sz (k := 0))]
  -- the pairs
  obtain ⟨ρ9, S9, e9, i9, F9⟩ := forGo_inv (I := pI xs (.d (.lst ys)) (.d (.lst bl)) (.d (.tup rows)) (.d (.tup [.tup rows, .tup ps])) (.own []) .un .un .un) (bd := bName 8) (body := P8b) (k := 10) (N := 800000 - 1) (L := 10) (by decide) (ranged 0 xs.length) 0 _ _ S8 ⟨[], .un, .un, rfl, fun x m => by simp at m, by simp⟩ F8 (by rw [ranged_len]; omega) (by rw [ranged_len]; omega)
    fun x mx n' ρ' B' S' hn' i' F' hB' => by
      unfold ranged at mx
      obtain ⟨j, mj, rfl⟩ := List.mem_map.mp mx
      have mj := List.mem_range.mp mj
      rw [show (0 : Int) + (j : Int) = (j : Int) by omega]
      exact p_step F' (by omega) (by omega) w1 mj hn' i'
  rw [ranged_len] at i9 F9
  obtain ⟨prs, i9', n9', rfl, hprs, lprs⟩ := i9
  have T8 := for_at (rg1_at (r := aC (aG gLen (aC (eP 1) aN)) aN) (ρ := bE (.d (.lst xs)) (.d (.lst ys)) (.d (.lst bl)) (.d (.tup rows)) (.d (.tup [.tup rows, .tup ps])) (.own []) (.own []) .un .un .un .un .un) (S := S8) (S1 := S8) (n := xs.length) rfl (by omega)) e9
  -- how many builds
  obtain ⟨w, S10, q10, w0', w1', F10⟩ := draw_ok F9 (by omega) (m := 8) (by decide) (by decide)
  obtain ⟨mb, I10, mm⟩ := nums8 (ns := [4, 6, 2, 9, 16, 0, 5, 3]) (by decide) w0' (show w < (([4, 6, 2, 9, 16, 0, 5, 3] : List Int).length : Int) from w1')
  have lmb : mb ≤ 16 := by
    simp only [List.mem_cons, List.not_mem_nil, or_false] at mm
    omega
  have T9 : sSet (e2 gIx (eL (lDisp (aC (eC (.int 4)) (aC (eC (.int 6)) (aC (eC (.int 2)) (aC (eC (.int 9)) (aC (eC (.int 16)) (aC (eC (.int 0)) (aC (eC (.int 5)) (aC (eC (.int 3)) aN)))))))))) (eCall f__law_draw (aC (eV 0) (aC (eC (.int 8)) aN)))) (bName 9) (bE (.d (.lst xs)) (.d (.lst ys)) (.d (.lst bl)) (.d (.tup rows)) (.d (.tup [.tup rows, .tup ps])) (.own prs) (.own []) i9' .un .un .un n9') S9 = some (.nx (bE (.d (.lst xs)) (.d (.lst ys)) (.d (.lst bl)) (.d (.tup rows)) (.d (.tup [.tup rows, .tup ps])) (.own prs) (.own []) i9' (.d (.int (mb : Int))) .un .un n9'), S10) := by
    simp only [List.map_cons, List.map_nil] at I10
    unfold bE
    simp only [runDef, sSeq, sNil, sRet, sIf, sSet, sSetL, sExt, sApp, sPar, sFreeze, sDrop, eC, eV, eP, e1, e2, l2, eL, aN, aC, aG, aGL, tOf, tAndJ, tOrJ, tNotJ, eAnd, eOr, eNot, eIf, eCh, tTru, gTru, eTup, lDisp, iOf, J.items?, iRg1, iRg2, cYes, bName, bTup, bCons, bNil, mN, mD, mO, setsS, eCall, gIsi, gIsi2, isT_tt, gLen, gI0, gLe_i, gGe_i, gGt_i, gLt_i, gAdd_i,  gListL, gTuple, eSl, oN, oS, List.map_cons, List.map_nil, List.map, List.replicate, List.length_cons, List.length_nil, List.nil_append, List.cons_append, List.append_nil, List.set_cons_zero, List.set_cons_succ, List.set, List.length, List.getElem?_cons_zero, List.getElem?_cons_succ, Nat.sub, Nat.reduceSub, Nat.reduceAdd, Nat.reduceLT, Nat.reduceLeDiff, List.getElem?_nil, Bool.false_eq_true, if_true, if_false, Bool.true_and, Bool.false_and, Bool.and_true, Bool.and_false, Bool.not_true, Bool.not_false, wipeE, if_pos (sz (k := 8)), q10, I10]
  have f1 := ne_flag w1
  have f2 := ne_flag w2
  have L10 : ∃ cnt : Nat, cnt ≤ 16 ∧ (cnt ≠ 0 → xs ≠ [] ∧ ys ≠ []) ∧ iRg1 (aC (eIf (tAndJ (tOf (e2 (gEq true) (eP 1) (eL (lDisp aN)))) (tOf (e2 (gEq true) (eP 2) (eL (lDisp aN))))) (eV 9) (eC (.int 0))) aN) (bE (.d (.lst xs)) (.d (.lst ys)) (.d (.lst bl)) (.d (.tup rows)) (.d (.tup [.tup rows, .tup ps])) (.own prs) (.own []) i9' (.d (.int (mb : Int))) .un .un n9') S10 = some (ranged 0 cnt, S10) := by
    by_cases h1 : xs = []
    · refine ⟨0, by decide, fun z => absurd rfl z, rg1_at ?_ (by decide)⟩
      subst h1
      simp only [List.isEmpty, Bool.not_true] at f1
      unfold bE
      simp only [runDef, sSeq, sNil, sRet, sIf, sSet, sSetL, sExt, sApp, sPar, sFreeze, sDrop, eC, eV, eP, e1, e2, l2, eL, aN, aC, aG, aGL, tOf, tAndJ, tOrJ, tNotJ, eAnd, eOr, eNot, eIf, eCh, tTru, gTru, eTup, lDisp, iOf, J.items?, iRg1, iRg2, cYes, bName, bTup, bCons, bNil, mN, mD, mO, setsS, eCall, gIsi, gIsi2, isT_tt, gLen, gI0, gLe_i, gGe_i, gGt_i, gLt_i, gAdd_i,  gListL, gTuple, eSl, oN, oS, List.map_cons, List.map_nil, List.map, List.replicate, List.length_cons, List.length_nil, List.nil_append, List.cons_append, List.append_nil, List.set_cons_zero, List.set_cons_succ, List.set, List.length, List.getElem?_cons_zero, List.getElem?_cons_succ, Nat.sub, Nat.reduceSub, Nat.reduceAdd, Nat.reduceLT, Nat.reduceLeDiff, List.getElem?_nil, Bool.false_eq_true, if_true, if_false, Bool.true_and, Bool.false_and, Bool.and_true, Bool.and_false, Bool.not_true, Bool.not_false, wipeE, if_pos (sz (k := 0)), f1]
      rfl
    · by_cases h2 : ys = []
      · refine ⟨0, by decide, fun z => absurd rfl z, rg1_at ?_ (by decide)⟩
        subst h2
        simp only [List.isEmpty, Bool.not_true] at f2
        rw [emp h1] at f1
        unfold bE
        simp only [runDef, sSeq, sNil, sRet, sIf, sSet, sSetL, sExt, sApp, sPar, sFreeze, sDrop, eC, eV, eP, e1, e2, l2, eL, aN, aC, aG, aGL, tOf, tAndJ, tOrJ, tNotJ, eAnd, eOr, eNot, eIf, eCh, tTru, gTru, eTup, lDisp, iOf, J.items?, iRg1, iRg2, cYes, bName, bTup, bCons, bNil, mN, mD, mO, setsS, eCall, gIsi, gIsi2, isT_tt, gLen, gI0, gLe_i, gGe_i, gGt_i, gLt_i, gAdd_i,  gListL, gTuple, eSl, oN, oS, List.map_cons, List.map_nil, List.map, List.replicate, List.length_cons, List.length_nil, List.nil_append, List.cons_append, List.append_nil, List.set_cons_zero, List.set_cons_succ, List.set, List.length, List.getElem?_cons_zero, List.getElem?_cons_succ, Nat.sub, Nat.reduceSub, Nat.reduceAdd, Nat.reduceLT, Nat.reduceLeDiff, List.getElem?_nil, Bool.false_eq_true, if_true, if_false, Bool.true_and, Bool.false_and, Bool.and_true, Bool.and_false, Bool.not_true, Bool.not_false, wipeE, if_pos (sz (k := 0)), f1, f2]
        rfl
      · refine ⟨mb, lmb, fun _ => ⟨h1, h2⟩, rg1_at ?_ (by omega)⟩
        rw [emp h2] at f2
        rw [emp h1] at f1
        unfold bE
        simp only [runDef, sSeq, sNil, sRet, sIf, sSet, sSetL, sExt, sApp, sPar, sFreeze, sDrop, eC, eV, eP, e1, e2, l2, eL, aN, aC, aG, aGL, tOf, tAndJ, tOrJ, tNotJ, eAnd, eOr, eNot, eIf, eCh, tTru, gTru, eTup, lDisp, iOf, J.items?, iRg1, iRg2, cYes, bName, bTup, bCons, bNil, mN, mD, mO, setsS, eCall, gIsi, gIsi2, isT_tt, gLen, gI0, gLe_i, gGe_i, gGt_i, gLt_i, gAdd_i,  gListL, gTuple, eSl, oN, oS, List.map_cons, List.map_nil, List.map, List.replicate, List.length_cons, List.length_nil, List.nil_append, List.cons_append, List.append_nil, List.set_cons_zero, List.set_cons_succ, List.set, List.length, List.getElem?_cons_zero, List.getElem?_cons_succ, Nat.sub, Nat.reduceSub, Nat.reduceAdd, Nat.reduceLT, Nat.reduceLeDiff, List.getElem?_nil, Bool.false_eq_true, if_true, if_false, Bool.true_and, Bool.false_and, Bool.and_true, Bool.and_false, Bool.not_true, Bool.not_false, wipeE, if_pos (sz (k := 0)), f1, f2]
  obtain ⟨cnt, c16, cne, L10⟩ := L10
  obtain ⟨ρ11, S11, e11, i11, F11⟩ := forGo_inv (I := bI (.d (.lst xs)) (.d (.lst ys)) (.d (.tup rows)) (.own prs) i9' (.d (.int (mb : Int))) n9' bl rows ps) (bd := bName 10) (body := B10) (k := 20) (N := 800000 - 1) (L := 20) (by decide) (ranged 0 cnt) 0 _ _ S10 ⟨[], .un, .un, rfl, fun x m => by simp at m, by simp⟩ F10 (by rw [ranged_len]; omega) (by rw [ranged_len]; omega)
    fun x mx n' ρ' B' S' hn' i' F' hB' => by
      have c0 : cnt ≠ 0 := fun z => by
        rw [z] at mx
        unfold ranged at mx
        simp at mx
      have ⟨hx, hy⟩ := cne c0
      have r0 : rows ≠ [] := fun z => hx (List.length_eq_zero_iff.mp (by rw [← lr, z]; rfl))
      have p0 : ps ≠ [] := fun z => hy (List.length_eq_zero_iff.mp (by rw [← lp, z]; rfl))
      exact b_step F' (by omega) or' r0 (by omega) op p0 (by omega) ob nb (by omega) (by omega) i'
  rw [ranged_len] at i11 F11
  obtain ⟨fnd, l11, u11, rfl, hfnd, lfnd⟩ := i11
  have T10 := for_at L10 e11
  refine ⟨rows, ps, prs, fnd, S11, ?_, fun x mx => (or' x mx).tg, fun x mx => (op x mx).tg, hprs, hfnd, by omega, by omega, by omega, by omega, F11.mono (by omega)⟩
  have g1 : gAdd (.tup [.tup rows, .tup ps]) (.tup [.tup prs, .tup fnd]) = some (.tup [.tup rows, .tup ps, .tup prs, .tup fnd]) := by
    show (if ([.tup rows, .tup ps] : List D).length + ([.tup prs, .tup fnd] : List D).length ≤ sizeLine then some (D.tup ([.tup rows, .tup ps] ++ [.tup prs, .tup fnd])) else none) = _
    exact if_pos (sz (k := 4))
  have T11 : sRet (e2 gAdd (eP 5) (eTup (aC (aG gTuple (aC (eP 6) aN)) (aC (aG gTuple (aC (eP 7) aN)) aN)))) (bE (.d (.lst xs)) (.d (.lst ys)) (.d (.lst bl)) (.d (.tup rows)) (.d (.tup [.tup rows, .tup ps])) (.own prs) (.own fnd) i9' (.d (.int (mb : Int))) l11 u11 n9') S11 = some (.rt (.tup [.tup rows, .tup ps, .tup prs, .tup fnd]), S11) := by
    unfold bE
    simp only [runDef, sSeq, sNil, sRet, sIf, sSet, sSetL, sExt, sApp, sPar, sFreeze, sDrop, eC, eV, eP, e1, e2, l2, eL, aN, aC, aG, aGL, tOf, tAndJ, tOrJ, tNotJ, eAnd, eOr, eNot, eIf, eCh, tTru, gTru, eTup, lDisp, iOf, J.items?, iRg1, iRg2, cYes, bName, bTup, bCons, bNil, mN, mD, mO, setsS, eCall, gIsi, gIsi2, isT_tt, gLen, gI0, gLe_i, gGe_i, gGt_i, gLt_i, gAdd_i,  gListL, gTuple, eSl, oN, oS, List.map_cons, List.map_nil, List.map, List.replicate, List.length_cons, List.length_nil, List.nil_append, List.cons_append, List.append_nil, List.set_cons_zero, List.set_cons_succ, List.set, List.length, List.getElem?_cons_zero, List.getElem?_cons_succ, Nat.sub, Nat.reduceSub, Nat.reduceAdd, Nat.reduceLT, Nat.reduceLeDiff, List.getElem?_nil, Bool.false_eq_true, if_true, if_false, Bool.true_and, Bool.false_and, Bool.and_true, Bool.and_false, Bool.not_true, Bool.not_false, wipeE, if_pos (sz (k := 2)), g1]
  exact run_at ((seq_at T1).trans ((seq_at T2).trans ((seq_at T3).trans ((seq_at T4).trans ((seq_at T5).trans ((seq_at T6).trans ((seq_at T7).trans ((seq_at T8).trans ((seq_at T9).trans ((seq_at T10).trans T11))))))))))
end
end K1

set_option maxHeartbeats 4000000
namespace K1
open PySem PySem.Spec PyProof.Rows L2 J
/-! a check that can be reckoned -/
mutual
def smB (n : Nat) : D → Bool
  | .non => true
  | .bl _ => true
  | .int _ => true
  | .str z => z.cps.toList.all (fun c => Nat.blt c 0x110000) && Nat.ble z.cps.toList.length 1000
  | .lst xs => Nat.ble xs.length 5000 && (match n with | 0 => false | m + 1 => smBs m xs)
  | .tup xs => Nat.ble xs.length 5000 && (match n with | 0 => false | m + 1 => smBs m xs)
  | .frz _ => false
  | .obj _ => false
def smBs (n : Nat) : List D → Bool
  | [] => true
  | x :: r => smB n x && smBs n r
end
mutual
theorem smB_ok : ∀ (n : Nat) (d : D), smB n d = true → gd n d
  | n, .non, _ => gd_non
  | n, .bl _, _ => gd_bl
  | n, .int _, _ => gd_int
  | n, .str z, h => by
    rw [smB, Bool.and_eq_true] at h
    exact gd_str (m := 1000) ⟨fun c m => by
      have q : Nat.blt c 0x110000 = true := List.all_eq_true.mp h.1 c m
      exact Nat.le_of_ble_eq_true q, by rw [len_cps]; exact Nat.le_of_ble_eq_true h.2⟩ (by decide)
  | 0, .lst xs, h => by rw [smB, Bool.and_eq_true] at h; exact absurd h.2 (by decide)
  | 0, .tup xs, h => by rw [smB, Bool.and_eq_true] at h; exact absurd h.2 (by decide)
  | n + 1, .lst xs, h => by
    rw [smB, Bool.and_eq_true] at h
    exact gd_lst (Nat.le_of_ble_eq_true h.1) (smBs_ok n xs h.2)
  | n + 1, .tup xs, h => by
    rw [smB, Bool.and_eq_true] at h
    exact gd_tup (Nat.le_of_ble_eq_true h.1) (smBs_ok n xs h.2)
  | _, .frz _, h => by cases h
  | _, .obj _, h => by cases h
theorem smBs_ok : ∀ (n : Nat) (ds : List D), smBs n ds = true → ∀ x ∈ ds, gd n x
  | _, [], _ => fun x m => by simp at m
  | n, y :: r, h => by
    rw [smBs, Bool.and_eq_true] at h
    exact fun x m => (List.mem_cons.mp m).elim (fun e => by rw [e]; exact smB_ok n y h.1) (smBs_ok n r h.2 x)
end
def odds : List D := [.non, .bl true, .bl false, .int (0), .int (1), .int (-1), .int (2), .int (100000000000000000000000000000000000000000000000000000000000), .str "", .str "a", .str "b9", .str "9a", .str "A", .str "abcdefgh", .str "abcdefghi", .str "a b", .str "-", .str "a-", .tup [], .tup [.str "a"], .tup [.str "a", .str "b"], .tup [.str "b", .str "a"], .tup [.str "a", .str "a"], .lst [], .lst [.str "a"], .tup [.int (1)], .tup [.tup []], .tup [.str "a", .int (1)], .tup [.str "a", .bl true], .tup [.str "a", .int (0)], .str "a\n", .str "a_b", .str "a,b", .tup [.str "a", .non], .tup [.str "a", .str "b", .str "c"], .tup [.tup [.str "a", .str "b"]], .str "0", .str "zzzzzzzz", .tup [.str "zzzzzzzz"], .lst [.tup []]]
theorem odds_ok : ∀ x ∈ odds, gd 3 x := smBs_ok 3 odds (by decide +kernel)
section
variable {B : Int} {S : Store}
theorem odd_ok (F : Fd B S) (hB : B < 900000) : ∃ d S', f__law_odd [.obj 0] S = some (d, S') ∧ gd 3 d ∧ Fd (B + 1) S' := by
  obtain ⟨x, S', q, mx, F'⟩ := pick_l (xs := odds) F (by omega) (by decide) (by decide)
  have E : f__law_odd [.obj 0] S = (match (match f__law_pick [.obj 0, .lst odds] S with | some (x, S1) => some (Out.rt x, S1) | none => none) with | some (.rt d, S') => some (d, S') | some (.nx _, S') => some (.non, S') | _ => none) := by kernel_rfl
  rw [q] at E
  exact ⟨x, S', E, odds_ok x mx, F'⟩
end
def fixL : List D := match f__law_fixed [] [] with | some (.lst xs, _) => xs | _ => []
def fixB : List D := match f__law_fixed_books [] [] with | some (.lst xs, _) => xs | _ => []
theorem fixed_eq (S : Store) : f__law_fixed [] S = some (.lst fixL, S) := by kernel_rfl
theorem fixB_eq (S : Store) : f__law_fixed_books [] S = some (.lst fixB, S) := by kernel_rfl
theorem fixL_ok : ∀ x ∈ fixL, gd 40 x := smBs_ok 40 fixL (by decide +kernel)
theorem fixB_ok : ∀ x ∈ fixB, gd 40 x := smBs_ok 40 fixB (by decide +kernel)
theorem fix_len : fixL.length + fixB.length ≤ 500 := by decide +kernel
end K1

set_option maxHeartbeats 4000000
namespace K1
open PySem PySem.Spec PyProof.Rows L2 J
def G (n : Nat) (d : D) : Prop := J.good d = true ∧ J.dpt d ≤ n
theorem gd.G {n m : Nat} {d : D} (h : gd n d) (l : n ≤ m) : K1.G m d := ⟨sm_good d h.1, Nat.le_trans h.2 l⟩
theorem G_tup {n : Nat} {xs : List D} (hz : xs.length ≤ 20000) (h : ∀ x ∈ xs, G n x) : G (n + 1) (.tup xs) := by
  refine ⟨by rw [J.good, Bool.and_eq_true, decide_eq_true_eq]; exact ⟨hz, (goods_all _).mpr fun x m => (h x m).1⟩, ?_⟩
  rw [J.dpt]
  exact Nat.succ_le_succ ((dpts_le _).mpr fun x m => (h x m).2)
theorem G_lst {n : Nat} {xs : List D} (hz : xs.length ≤ 20000) (h : ∀ x ∈ xs, G n x) : G (n + 1) (.lst xs) := by
  refine ⟨by rw [J.good, Bool.and_eq_true, decide_eq_true_eq]; exact ⟨hz, (goods_all _).mpr fun x m => (h x m).1⟩, ?_⟩
  rw [J.dpt]
  exact Nat.succ_le_succ ((dpts_le _).mpr fun x m => (h x m).2)
theorem G_str {n m : Nat} {z : Str} (h : okS m z) (hm : m ≤ 3000) : G n (.str z) := by
  refine ⟨?_, Nat.zero_le _⟩
  rw [J.good, Bool.and_eq_true, decide_eq_true_eq]
  exact ⟨Array.all_eq_true'.mpr fun c m => decide_eq_true (h.1 c (by simpa using m)), Nat.le_trans h.2 hm⟩
theorem gd_inv {n : Nat} {xs : List D} (h : gd n (.tup xs)) : xs.length ≤ 5000 ∧ ∃ k, n = k + 1 ∧ ∀ x ∈ xs, gd k x := by
  obtain ⟨h1, h2⟩ := h
  rw [sm, Bool.and_eq_true, decide_eq_true_eq] at h1
  rw [J.dpt] at h2
  obtain ⟨k, rfl⟩ : ∃ k, n = k + 1 := ⟨n - 1, by omega⟩
  have dd := (dpts_le (n := k) xs).mp (by omega)
  exact ⟨h1.1, k, rfl, fun x m => ⟨(sms_all xs).mp h1.2 x m, dd x m⟩⟩
theorem gd_s {n : Nat} {z : Str} (h : gd n (.str z)) : okS 1000 z := by
  have h1 := h.1
  rw [sm, Bool.and_eq_true, decide_eq_true_eq] at h1
  exact ⟨fun c m => of_decide_eq_true (Array.all_eq_true'.mp h1.1 c (by simpa using m)), h1.2⟩
theorem gSl_t (xs : List D) (l u : Option Int) : gSl (.tup xs) l u = some (.tup (J.cutD xs l u)) := rfl
theorem gAdd_t {xs ys : List D} (h : xs.length + ys.length ≤ 16777216) : gAdd (.tup xs) (.tup ys) = some (.tup (xs ++ ys)) := if_pos (by rw [sizeLine_eq]; exact h)
theorem gSl_s3 {z : Str} (l u : Option Int) (h : z.length ≤ 3000) : gSl (.str z) l u = some (.str (cutS z l u)) := if_pos (by rw [sizeLine_eq]; omega)
def sgs : List D := [.str "a", .str "z", .str "0", .str "9", .str "A", .str "_", .str " ", .str "-", .str ""]
theorem sgs_ok : ∀ d ∈ sgs, isStr 1 d := fun d m => strB_ok (List.all_eq_true.mp (show sgs.all (strB 1) = true by rfl) d m)
def bP : GS := (sPar [4, 3] (mD (eCall f__law_draw (aC (eV 0) (aC (eC (.int 7)) aN))) (mD (eCall f__law_draw (aC (eV 0) (aC (e2 gAdd (eP 2) (eC (.int 1))) aN))) mN)))
def bI1 : GS := (sIf (tAndJ (tTru (e1 (gIsi .tuple) (eP 1))) (tOf (e2 (gEq false) (eP 4) (eC (.int 3))))) (sRet (eL (aGL gListL (aC (eP 1) aN)))) sNil)
def bI2 : GS := (sIf (tAndJ (tTru (e1 (gIsi .tuple) (eP 1))) (tOf (e2 gLt (eP 4) (eC (.int 3))))) (sSeq (sSet (eL (lDisp (aC (eTup aN) (aC (e2 gAdd (eSl (eP 1) (oS (eV 3)) (oS (e2 gAdd (eP 3) (eC (.int 1))))) (eSl (eP 1) (oS (eV 3)) (oS (e2 gAdd (eP 3) (eC (.int 1)))))) (aC (e2 gAdd (eSl (eP 1) (oS (e2 gAdd (eP 3) (eC (.int 1)))) (oS (e2 gAdd (eP 3) (eC (.int 2))))) (eSl (eP 1) (oS (eV 3)) (oS (e2 gAdd (eP 3) (eC (.int 1)))))) aN))))) (bName 5)) (sRet (e2 gAdd (e2 gAdd (eSl (eP 1) oN (oS (eV 3))) (e2 gIx (eP 5) (eP 4))) (eSl (eP 1) (oS (e2 gAdd (eP 3) (e2 gIx (eL (lDisp (aC (eC (.int 1)) (aC (eC (.int 1)) (aC (eC (.int 2)) aN))))) (eP 4)))) oN)))) sNil)
def bI3 : GS := (sIf (tAndJ (tTru (e1 (gIsi .str) (eP 1))) (tOf (e2 gLt (eP 4) (eC (.int 4))))) (sSeq (sSet (eCall f__law_pick (aC (eV 0) (aC (eL (lDisp (aC (eC (.str ("a" : Str))) (aC (eC (.str ("z" : Str))) (aC (eC (.str ("0" : Str))) (aC (eC (.str ("9" : Str))) (aC (eC (.str ("A" : Str))) (aC (eC (.str ("_" : Str))) (aC (eC (.str (" " : Str))) (aC (eC (.str ("-" : Str))) (aC (eC (.str ("" : Str))) aN))))))))))) aN))) (bName 6)) (sRet (e2 gAdd (e2 gAdd (eSl (eP 1) oN (oS (eV 3))) (eP 6)) (eSl (eP 1) (oS (e2 gAdd (eP 3) (e2 (gI CPos fun i j => i % j) (aG gInt (aC (eP 4) aN)) (eC (.int 2))))) oN)))) sNil)
def bI4 : GS := (sIf (tAndJ (tTru (e1 (gIsi .int) (eP 1))) (tOf (e2 gLt (eP 4) (eC (.int 3))))) (sRet (e2 gIx (eL (lDisp (aC (e2 gAdd (eP 1) (eC (.int 1))) (aC (eC (.int 0)) (aC (e2 gGt (eP 1) (eC (.int 0))) aN))))) (eP 4))) sNil)
def bI5 : GS := (sRet (eCall f__law_odd (aC (eV 0) aN)))
def bB : GS := sSeq bP (sSeq bI1 (sSeq bI2 (sSeq bI3 (sSeq bI4 bI5))))
def eB (d : D) (size k way : Slot) : J.Env := [.d (.obj 0), .d d, size, k, way, .un, .un]
section
variable {B : Int} {S : Store} {n : Nat} {d : D}
theorem nx1 (w k : Int) (size : Slot) (h : isT .tuple d = false) : bI1 (eB d size (.d (.int k)) (.d (.int w))) S = some (.nx (eB d size (.d (.int k)) (.d (.int w))), S) := by
  unfold bI1 eB; simp only [runDef, sSeq, sNil, sRet, sIf, sSet, sSetL, sExt, sApp, sPar, sFreeze, sDrop, eC, eV, eP, e1, e2, l2, eL, aN, aC, aG, aGL, tOf, tAndJ, tOrJ, tNotJ, eAnd, eOr, eNot, eIf, eCh, tTru, gTru, eTup, lDisp, iOf, J.items?, iRg1, iRg2, cYes, bName, bTup, bCons, bNil, mN, mD, mO, setsS, eCall, gIsi, gIsi2, isT_tt, gLen, gI0, gLe_i, gGe_i, gGt_i, gLt_i, gAdd_i,  gListL, gTuple, eSl, oN, oS, List.map_cons, List.map_nil, List.map, List.replicate, List.length_cons, List.length_nil, List.nil_append, List.cons_append, List.append_nil, List.set_cons_zero, List.set_cons_succ, List.set, List.length, List.getElem?_cons_zero, List.getElem?_cons_succ, Nat.sub, Nat.reduceSub, Nat.reduceAdd, Nat.reduceLT, Nat.reduceLeDiff, List.getElem?_nil, Bool.false_eq_true, if_true, if_false, Bool.true_and, Bool.false_and, Bool.and_true, Bool.and_false, Bool.not_true, Bool.not_false, Bool.true_or, Bool.or_true, Bool.or_false, Bool.false_or, wipeE, h]
theorem nx2 (w k : Int) (size : Slot) (h : isT .tuple d = false) : bI2 (eB d size (.d (.int k)) (.d (.int w))) S = some (.nx (eB d size (.d (.int k)) (.d (.int w))), S) := by
  unfold bI2 eB; simp only [runDef, sSeq, sNil, sRet, sIf, sSet, sSetL, sExt, sApp, sPar, sFreeze, sDrop, eC, eV, eP, e1, e2, l2, eL, aN, aC, aG, aGL, tOf, tAndJ, tOrJ, tNotJ, eAnd, eOr, eNot, eIf, eCh, tTru, gTru, eTup, lDisp, iOf, J.items?, iRg1, iRg2, cYes, bName, bTup, bCons, bNil, mN, mD, mO, setsS, eCall, gIsi, gIsi2, isT_tt, gLen, gI0, gLe_i, gGe_i, gGt_i, gLt_i, gAdd_i,  gListL, gTuple, eSl, oN, oS, List.map_cons, List.map_nil, List.map, List.replicate, List.length_cons, List.length_nil, List.nil_append, List.cons_append, List.append_nil, List.set_cons_zero, List.set_cons_succ, List.set, List.length, List.getElem?_cons_zero, List.getElem?_cons_succ, Nat.sub, Nat.reduceSub, Nat.reduceAdd, Nat.reduceLT, Nat.reduceLeDiff, List.getElem?_nil, Bool.false_eq_true, if_true, if_false, Bool.true_and, Bool.false_and, Bool.and_true, Bool.and_false, Bool.not_true, Bool.not_false, Bool.true_or, Bool.or_true, Bool.or_false, Bool.false_or, wipeE, h]
theorem nx3 (w k : Int) (size : Slot) (h : isT .str d = false ∨ ¬ w < 4) : bI3 (eB d size (.d (.int k)) (.d (.int w))) S = some (.nx (eB d size (.d (.int k)) (.d (.int w))), S) := by
  unfold bI3 eB
  cases q : isT .str d with
  | false => simp only [runDef, sSeq, sNil, sRet, sIf, sSet, sSetL, sExt, sApp, sPar, sFreeze, sDrop, eC, eV, eP, e1, e2, l2, eL, aN, aC, aG, aGL, tOf, tAndJ, tOrJ, tNotJ, eAnd, eOr, eNot, eIf, eCh, tTru, gTru, eTup, lDisp, iOf, J.items?, iRg1, iRg2, cYes, bName, bTup, bCons, bNil, mN, mD, mO, setsS, eCall, gIsi, gIsi2, isT_tt, gLen, gI0, gLe_i, gGe_i, gGt_i, gLt_i, gAdd_i,  gListL, gTuple, eSl, oN, oS, List.map_cons, List.map_nil, List.map, List.replicate, List.length_cons, List.length_nil, List.nil_append, List.cons_append, List.append_nil, List.set_cons_zero, List.set_cons_succ, List.set, List.length, List.getElem?_cons_zero, List.getElem?_cons_succ, Nat.sub, Nat.reduceSub, Nat.reduceAdd, Nat.reduceLT, Nat.reduceLeDiff, List.getElem?_nil, Bool.false_eq_true, if_true, if_false, Bool.true_and, Bool.false_and, Bool.and_true, Bool.and_false, Bool.not_true, Bool.not_false, Bool.true_or, Bool.or_true, Bool.or_false, Bool.false_or, wipeE, q]
  | true =>
    rcases h with h | h
    · rw [q] at h; cases h
    · simp only [runDef, sSeq, sNil, sRet, sIf, sSet, sSetL, sExt, sApp, sPar, sFreeze, sDrop, eC, eV, eP, e1, e2, l2, eL, aN, aC, aG, aGL, tOf, tAndJ, tOrJ, tNotJ, eAnd, eOr, eNot, eIf, eCh, tTru, gTru, eTup, lDisp, iOf, J.items?, iRg1, iRg2, cYes, bName, bTup, bCons, bNil, mN, mD, mO, setsS, eCall, gIsi, gIsi2, isT_tt, gLen, gI0, gLe_i, gGe_i, gGt_i, gLt_i, gAdd_i,  gListL, gTuple, eSl, oN, oS, List.map_cons, List.map_nil, List.map, List.replicate, List.length_cons, List.length_nil, List.nil_append, List.cons_append, List.append_nil, List.set_cons_zero, List.set_cons_succ, List.set, List.length, List.getElem?_cons_zero, List.getElem?_cons_succ, Nat.sub, Nat.reduceSub, Nat.reduceAdd, Nat.reduceLT, Nat.reduceLeDiff, List.getElem?_nil, Bool.false_eq_true, if_true, if_false, Bool.true_and, Bool.false_and, Bool.and_true, Bool.and_false, Bool.not_true, Bool.not_false, Bool.true_or, Bool.or_true, Bool.or_false, Bool.false_or, wipeE, q, decide_eq_false h]
theorem nx4 (w k : Int) (size : Slot) (h : isT .int d = false ∨ ¬ w < 3) : bI4 (eB d size (.d (.int k)) (.d (.int w))) S = some (.nx (eB d size (.d (.int k)) (.d (.int w))), S) := by
  unfold bI4 eB
  cases q : isT .int d with
  | false => simp only [runDef, sSeq, sNil, sRet, sIf, sSet, sSetL, sExt, sApp, sPar, sFreeze, sDrop, eC, eV, eP, e1, e2, l2, eL, aN, aC, aG, aGL, tOf, tAndJ, tOrJ, tNotJ, eAnd, eOr, eNot, eIf, eCh, tTru, gTru, eTup, lDisp, iOf, J.items?, iRg1, iRg2, cYes, bName, bTup, bCons, bNil, mN, mD, mO, setsS, eCall, gIsi, gIsi2, isT_tt, gLen, gI0, gLe_i, gGe_i, gGt_i, gLt_i, gAdd_i,  gListL, gTuple, eSl, oN, oS, List.map_cons, List.map_nil, List.map, List.replicate, List.length_cons, List.length_nil, List.nil_append, List.cons_append, List.append_nil, List.set_cons_zero, List.set_cons_succ, List.set, List.length, List.getElem?_cons_zero, List.getElem?_cons_succ, Nat.sub, Nat.reduceSub, Nat.reduceAdd, Nat.reduceLT, Nat.reduceLeDiff, List.getElem?_nil, Bool.false_eq_true, if_true, if_false, Bool.true_and, Bool.false_and, Bool.and_true, Bool.and_false, Bool.not_true, Bool.not_false, Bool.true_or, Bool.or_true, Bool.or_false, Bool.false_or, wipeE, q]
  | true =>
    rcases h with h | h
    · rw [q] at h; cases h
    · simp only [runDef, sSeq, sNil, sRet, sIf, sSet, sSetL, sExt, sApp, sPar, sFreeze, sDrop, eC, eV, eP, e1, e2, l2, eL, aN, aC, aG, aGL, tOf, tAndJ, tOrJ, tNotJ, eAnd, eOr, eNot, eIf, eCh, tTru, gTru, eTup, lDisp, iOf, J.items?, iRg1, iRg2, cYes, bName, bTup, bCons, bNil, mN, mD, mO, setsS, eCall, gIsi, gIsi2, isT_tt, gLen, gI0, gLe_i, gGe_i, gGt_i, gLt_i, gAdd_i,  gListL, gTuple, eSl, oN, oS, List.map_cons, List.map_nil, List.map, List.replicate, List.length_cons, List.length_nil, List.nil_append, List.cons_append, List.append_nil, List.set_cons_zero, List.set_cons_succ, List.set, List.length, List.getElem?_cons_zero, List.getElem?_cons_succ, Nat.sub, Nat.reduceSub, Nat.reduceAdd, Nat.reduceLT, Nat.reduceLeDiff, List.getElem?_nil, Bool.false_eq_true, if_true, if_false, Bool.true_and, Bool.false_and, Bool.and_true, Bool.and_false, Bool.not_true, Bool.not_false, Bool.true_or, Bool.or_true, Bool.or_false, Bool.false_or, wipeE, q, decide_eq_false h]
theorem rt5 (w k : Int) (size : Slot) (F : Fd B S) (hB : B < 900000) : ∃ d' S', bI5 (eB d size (.d (.int k)) (.d (.int w))) S = some (.rt d', S') ∧ G (n + 3) d' ∧ Fd (B + 1) S' := by
  obtain ⟨x, S', q, g, F'⟩ := odd_ok F hB
  refine ⟨x, S', ?_, g.G (by omega), F'⟩
  unfold bI5 eB; simp only [runDef, sSeq, sNil, sRet, sIf, sSet, sSetL, sExt, sApp, sPar, sFreeze, sDrop, eC, eV, eP, e1, e2, l2, eL, aN, aC, aG, aGL, tOf, tAndJ, tOrJ, tNotJ, eAnd, eOr, eNot, eIf, eCh, tTru, gTru, eTup, lDisp, iOf, J.items?, iRg1, iRg2, cYes, bName, bTup, bCons, bNil, mN, mD, mO, setsS, eCall, gIsi, gIsi2, isT_tt, gLen, gI0, gLe_i, gGe_i, gGt_i, gLt_i, gAdd_i,  gListL, gTuple, eSl, oN, oS, List.map_cons, List.map_nil, List.map, List.replicate, List.length_cons, List.length_nil, List.nil_append, List.cons_append, List.append_nil, List.set_cons_zero, List.set_cons_succ, List.set, List.length, List.getElem?_cons_zero, List.getElem?_cons_succ, Nat.sub, Nat.reduceSub, Nat.reduceAdd, Nat.reduceLT, Nat.reduceLeDiff, List.getElem?_nil, Bool.false_eq_true, if_true, if_false, Bool.true_and, Bool.false_and, Bool.and_true, Bool.and_false, Bool.not_true, Bool.not_false, Bool.true_or, Bool.or_true, Bool.or_false, Bool.false_or, wipeE, q]
theorem base_ok (hd : gd n d) (s : Nat) (hs : s ≤ 10000) (hss : ∀ xs, d = .tup xs → s = xs.length) (F : Fd B S) (hB : B < 800000) : ∃ d' S', bB (eB d (.d (.int (s : Int))) .un .un) S = some (.rt d', S') ∧ G (n + 3) d' ∧ Fd (B + 5) S' := by
  obtain ⟨w, S1, q1, w0, w1, F1⟩ := draw_ok F (by omega) (m := 7) (by decide) (by decide)
  obtain ⟨k, S2, q2, k0, k1, F2⟩ := draw_ok F1 (by omega) (m := (s : Int) + 1) (by omega) (log_small (by omega) (by omega))
  have T1 : bP (eB d (.d (.int (s : Int))) .un .un) S = some (.nx (eB d (.d (.int (s : Int))) (.d (.int k)) (.d (.int w))), S2) := by
    unfold bP eB; simp only [runDef, sSeq, sNil, sRet, sIf, sSet, sSetL, sExt, sApp, sPar, sFreeze, sDrop, eC, eV, eP, e1, e2, l2, eL, aN, aC, aG, aGL, tOf, tAndJ, tOrJ, tNotJ, eAnd, eOr, eNot, eIf, eCh, tTru, gTru, eTup, lDisp, iOf, J.items?, iRg1, iRg2, cYes, bName, bTup, bCons, bNil, mN, mD, mO, setsS, eCall, gIsi, gIsi2, isT_tt, gLen, gI0, gLe_i, gGe_i, gGt_i, gLt_i, gAdd_i,  gListL, gTuple, eSl, oN, oS, List.map_cons, List.map_nil, List.map, List.replicate, List.length_cons, List.length_nil, List.nil_append, List.cons_append, List.append_nil, List.set_cons_zero, List.set_cons_succ, List.set, List.length, List.getElem?_cons_zero, List.getElem?_cons_succ, Nat.sub, Nat.reduceSub, Nat.reduceAdd, Nat.reduceLT, Nat.reduceLeDiff, List.getElem?_nil, Bool.false_eq_true, if_true, if_false, Bool.true_and, Bool.false_and, Bool.and_true, Bool.and_false, Bool.not_true, Bool.not_false, Bool.true_or, Bool.or_true, Bool.or_false, Bool.false_or, wipeE, sPar, q1, q2]
  have fin : ∀ {g : GS}, (∃ d' S', g (eB d (.d (.int (s : Int))) (.d (.int k)) (.d (.int w))) S2 = some (.rt d', S') ∧ G (n + 3) d' ∧ Fd (B + 5) S') → ∃ d' S', sSeq bP g (eB d (.d (.int (s : Int))) .un .un) S = some (.rt d', S') ∧ G (n + 3) d' ∧ Fd (B + 5) S' := fun ⟨d', S', e, r⟩ => ⟨d', S', (seq_at T1).trans e, r⟩
  refine fin ?_
  have odd : ∃ d' S', bI5 (eB d (.d (.int (s : Int))) (.d (.int k)) (.d (.int w))) S2 = some (.rt d', S') ∧ G (n + 3) d' ∧ Fd (B + 5) S' := by
    obtain ⟨d', S', e, g, F'⟩ := rt5 (d := d) (n := n) w k (.d (.int (s : Int))) F2 (by omega)
    exact ⟨d', S', e, g, F'.mono (by omega)⟩
  cases d with
  | frz _ => exact absurd hd.1 (by simp [sm])
  | obj _ => exact absurd hd.1 (by simp [sm])
  | non =>
    obtain ⟨d', S', e, r⟩ := odd
    exact ⟨d', S', (seq_at (nx1 w k _ rfl)).trans ((seq_at (nx2 w k _ rfl)).trans ((seq_at (nx3 w k _ (.inl rfl))).trans ((seq_at (nx4 w k _ (.inl rfl))).trans e))), r⟩
  | lst _ =>
    obtain ⟨d', S', e, r⟩ := odd
    exact ⟨d', S', (seq_at (nx1 w k _ rfl)).trans ((seq_at (nx2 w k _ rfl)).trans ((seq_at (nx3 w k _ (.inl rfl))).trans ((seq_at (nx4 w k _ (.inl rfl))).trans e))), r⟩
  | int i =>
    by_cases h : w < 3
    · have I : ∃ x, gIx (.lst [.int (i + 1), .int 0, .bl (decide (0 < i))]) (.int w) = some x ∧ G (n + 3) x := by
        have : w = 0 ∨ w = 1 ∨ w = 2 := by omega
        rcases this with rfl | rfl | rfl
        · exact ⟨_, rfl, rfl, Nat.zero_le _⟩
        · exact ⟨_, rfl, rfl, Nat.zero_le _⟩
        · exact ⟨_, rfl, rfl, Nat.zero_le _⟩
      obtain ⟨x, I, gx⟩ := I
      refine ⟨x, S2, (seq_at (nx1 w k _ rfl)).trans ((seq_at (nx2 w k _ rfl)).trans ((seq_at (nx3 w k _ (.inl rfl))).trans (seq_rt ?_))), gx, F2.mono (by omega)⟩
      unfold bI4 eB
      simp only [runDef, sSeq, sNil, sRet, sIf, sSet, sSetL, sExt, sApp, sPar, sFreeze, sDrop, eC, eV, eP, e1, e2, l2, eL, aN, aC, aG, aGL, tOf, tAndJ, tOrJ, tNotJ, eAnd, eOr, eNot, eIf, eCh, tTru, gTru, eTup, lDisp, iOf, J.items?, iRg1, iRg2, cYes, bName, bTup, bCons, bNil, mN, mD, mO, setsS, eCall, gIsi, gIsi2, isT_tt, gLen, gI0, gLe_i, gGe_i, gGt_i, gLt_i, gAdd_i,  gListL, gTuple, eSl, oN, oS, List.map_cons, List.map_nil, List.map, List.replicate, List.length_cons, List.length_nil, List.nil_append, List.cons_append, List.append_nil, List.set_cons_zero, List.set_cons_succ, List.set, List.length, List.getElem?_cons_zero, List.getElem?_cons_succ, Nat.sub, Nat.reduceSub, Nat.reduceAdd, Nat.reduceLT, Nat.reduceLeDiff, List.getElem?_nil, Bool.false_eq_true, if_true, if_false, Bool.true_and, Bool.false_and, Bool.and_true, Bool.and_false, Bool.not_true, Bool.not_false, Bool.true_or, Bool.or_true, Bool.or_false, Bool.false_or, wipeE, show isT .int (.int i) = true from rfl, decide_eq_true h, if_pos (sz (k := 3)), I]
    · obtain ⟨d', S', e, r⟩ := odd
      exact ⟨d', S', (seq_at (nx1 w k _ rfl)).trans ((seq_at (nx2 w k _ rfl)).trans ((seq_at (nx3 w k _ (.inl rfl))).trans ((seq_at (nx4 w k _ (.inr h))).trans e))), r⟩
  | bl b =>
    by_cases h : w < 3
    · have I : ∃ x, gIx (.lst [.int ((if b = true then (1 : Int) else 0) + 1), .int 0, .bl (decide ((0 : Int) < if b = true then (1 : Int) else 0))]) (.int w) = some x ∧ G (n + 3) x := by
        have : w = 0 ∨ w = 1 ∨ w = 2 := by omega
        rcases this with rfl | rfl | rfl
        · exact ⟨_, rfl, rfl, Nat.zero_le _⟩
        · exact ⟨_, rfl, rfl, Nat.zero_le _⟩
        · exact ⟨_, rfl, rfl, Nat.zero_le _⟩
      obtain ⟨x, I, gx⟩ := I
      have a1 : gAdd (.bl b) (.int 1) = some (.int ((if b = true then (1 : Int) else 0) + 1)) := rfl
      have a2 : gGt (.bl b) (.int 0) = some (.bl (decide ((0 : Int) < if b = true then (1 : Int) else 0))) := rfl
      refine ⟨x, S2, (seq_at (nx1 w k _ rfl)).trans ((seq_at (nx2 w k _ rfl)).trans ((seq_at (nx3 w k _ (.inl rfl))).trans (seq_rt ?_))), gx, F2.mono (by omega)⟩
      have E : e2 gIx (eL (lDisp (aC (e2 gAdd (eP 1) (eC (.int 1))) (aC (eC (.int 0)) (aC (e2 gGt (eP 1) (eC (.int 0))) aN))))) (eP 4) (eB (.bl b) (.d (.int (s : Int))) (.d (.int k)) (.d (.int w))) S2 = some (x, S2) := by
        refine e2_at (eL_at (xs := [.int ((if b = true then (1 : Int) else 0) + 1), .int 0, .bl (decide ((0 : Int) < if b = true then (1 : Int) else 0))]) ?_) rfl I
        simp only [eB, lDisp, aC, aN, e2, eP, eC, List.getElem?_cons_zero, List.getElem?_cons_succ, a1, a2, List.length_cons, List.length_nil, Nat.reduceAdd, if_pos (sz (k := 3))]
      have T0 : tAndJ (tTru (e1 (gIsi .int) (eP 1))) (tOf (e2 gLt (eP 4) (eC (.int 3)))) (eB (.bl b) (.d (.int (s : Int))) (.d (.int k)) (.d (.int w))) S2 = some (true, S2) := by
        unfold eB
        simp only [runDef, sSeq, sNil, sRet, sIf, sSet, sSetL, sExt, sApp, sPar, sFreeze, sDrop, eC, eV, eP, e1, e2, l2, eL, aN, aC, aG, aGL, tOf, tAndJ, tOrJ, tNotJ, eAnd, eOr, eNot, eIf, eCh, tTru, gTru, eTup, lDisp, iOf, J.items?, iRg1, iRg2, cYes, bName, bTup, bCons, bNil, mN, mD, mO, setsS, eCall, gIsi, gIsi2, isT_tt, gLen, gI0, gLe_i, gGe_i, gGt_i, gLt_i, gAdd_i,  gListL, gTuple, eSl, oN, oS, List.map_cons, List.map_nil, List.map, List.replicate, List.length_cons, List.length_nil, List.nil_append, List.cons_append, List.append_nil, List.set_cons_zero, List.set_cons_succ, List.set, List.length, List.getElem?_cons_zero, List.getElem?_cons_succ, Nat.sub, Nat.reduceSub, Nat.reduceAdd, Nat.reduceLT, Nat.reduceLeDiff, List.getElem?_nil, Bool.false_eq_true, if_true, if_false, Bool.true_and, Bool.false_and, Bool.and_true, Bool.and_false, Bool.not_true, Bool.not_false, Bool.true_or, Bool.or_true, Bool.or_false, Bool.false_or, wipeE, show isT .int (.bl b) = true from rfl, decide_eq_true h]
      unfold bI4 sIf
      rw [T0]
      exact ret_at E
    · obtain ⟨d', S', e, r⟩ := odd
      exact ⟨d', S', (seq_at (nx1 w k _ rfl)).trans ((seq_at (nx2 w k _ rfl)).trans ((seq_at (nx3 w k _ (.inl rfl))).trans ((seq_at (nx4 w k _ (.inr h))).trans e))), r⟩
  | str z =>
    by_cases h : w < 4
    · obtain ⟨x, S3, q3, mx, F3⟩ := pick_l (xs := sgs) F2 (by omega) (by decide) (by decide)
      obtain ⟨y, rfl, oy⟩ := sgs_ok x mx
      have oz := gd_s hd
      have c1 := oz.cut none (some k)
      have c2 := oz.cut (some (k + w % 2)) none
      have a1 := c1.app oy
      have a2 := a1.app c2
      have l0 := oz.2
      have l1 := c1.2
      have l2 := oy.2
      have l3 := c2.2
      have l4 := a1.2
      refine ⟨.str (cutS z none (some k) ++ y ++ cutS z (some (k + w % 2)) none), S3, (seq_at (nx1 w k _ rfl)).trans ((seq_at (nx2 w k _ rfl)).trans (seq_rt ?_)), G_str a2 (by decide), F3.mono (by omega)⟩
      unfold bI3 eB
      simp only [sgs] at q3
      simp only [runDef, sSeq, sNil, sRet, sIf, sSet, sSetL, sExt, sApp, sPar, sFreeze, sDrop, eC, eV, eP, e1, e2, l2, eL, aN, aC, aG, aGL, tOf, tAndJ, tOrJ, tNotJ, eAnd, eOr, eNot, eIf, eCh, tTru, gTru, eTup, lDisp, iOf, J.items?, iRg1, iRg2, cYes, bName, bTup, bCons, bNil, mN, mD, mO, setsS, eCall, gIsi, gIsi2, isT_tt, gLen, gI0, gLe_i, gGe_i, gGt_i, gLt_i, gAdd_i,  gListL, gTuple, eSl, oN, oS, List.map_cons, List.map_nil, List.map, List.replicate, List.length_cons, List.length_nil, List.nil_append, List.cons_append, List.append_nil, List.set_cons_zero, List.set_cons_succ, List.set, List.length, List.getElem?_cons_zero, List.getElem?_cons_succ, Nat.sub, Nat.reduceSub, Nat.reduceAdd, Nat.reduceLT, Nat.reduceLeDiff, List.getElem?_nil, Bool.false_eq_true, if_true, if_false, Bool.true_and, Bool.false_and, Bool.and_true, Bool.and_false, Bool.not_true, Bool.not_false, Bool.true_or, Bool.or_true, Bool.or_false, Bool.false_or, wipeE, isT_ss, decide_eq_true h, if_pos (sz (k := 9)), q3, gInt_i, mod_i (show (0 : Int) < 2 by decide), gSl_s3 none (some k) (show z.length ≤ 3000 by omega), gSl_s3 (some (k + w % 2)) none (show z.length ≤ 3000 by omega), gAdd_s (x := cutS z none (some k)) (y := y) (by omega), gAdd_s (x := cutS z none (some k) ++ y) (y := cutS z (some (k + w % 2)) none) (by omega)]
    · obtain ⟨d', S', e, r⟩ := odd
      exact ⟨d', S', (seq_at (nx1 w k _ rfl)).trans ((seq_at (nx2 w k _ rfl)).trans ((seq_at (nx3 w k _ (.inr h))).trans ((seq_at (nx4 w k _ (.inl rfl))).trans e))), r⟩
  | tup xs =>
    obtain ⟨lx, m, rfl, hx⟩ := gd_inv hd
    by_cases h3 : w = 3
    · refine ⟨.lst xs, S2, seq_rt ?_, G_lst (n := m + 3) (by omega) fun x mx => (hx x mx).G (by omega), F2.mono (by omega)⟩
      unfold bI1 eB
      simp only [runDef, sSeq, sNil, sRet, sIf, sSet, sSetL, sExt, sApp, sPar, sFreeze, sDrop, eC, eV, eP, e1, e2, l2, eL, aN, aC, aG, aGL, tOf, tAndJ, tOrJ, tNotJ, eAnd, eOr, eNot, eIf, eCh, tTru, gTru, eTup, lDisp, iOf, J.items?, iRg1, iRg2, cYes, bName, bTup, bCons, bNil, mN, mD, mO, setsS, eCall, gIsi, gIsi2, isT_tt, gLen, gI0, gLe_i, gGe_i, gGt_i, gLt_i, gAdd_i,  gListL, gTuple, eSl, oN, oS, List.map_cons, List.map_nil, List.map, List.replicate, List.length_cons, List.length_nil, List.nil_append, List.cons_append, List.append_nil, List.set_cons_zero, List.set_cons_succ, List.set, List.length, List.getElem?_cons_zero, List.getElem?_cons_succ, Nat.sub, Nat.reduceSub, Nat.reduceAdd, Nat.reduceLT, Nat.reduceLeDiff, List.getElem?_nil, Bool.false_eq_true, if_true, if_false, Bool.true_and, Bool.false_and, Bool.and_true, Bool.and_false, Bool.not_true, Bool.not_false, Bool.true_or, Bool.or_true, Bool.or_false, Bool.false_or, wipeE, gEq_i, h3, show ((3 : Int) == 3) = true from rfl]
    · have T2 : bI1 (eB (.tup xs) (.d (.int (s : Int))) (.d (.int k)) (.d (.int w))) S2 = some (.nx (eB (.tup xs) (.d (.int (s : Int))) (.d (.int k)) (.d (.int w))), S2) := by
        unfold bI1 eB
        simp only [runDef, sSeq, sNil, sRet, sIf, sSet, sSetL, sExt, sApp, sPar, sFreeze, sDrop, eC, eV, eP, e1, e2, l2, eL, aN, aC, aG, aGL, tOf, tAndJ, tOrJ, tNotJ, eAnd, eOr, eNot, eIf, eCh, tTru, gTru, eTup, lDisp, iOf, J.items?, iRg1, iRg2, cYes, bName, bTup, bCons, bNil, mN, mD, mO, setsS, eCall, gIsi, gIsi2, isT_tt, gLen, gI0, gLe_i, gGe_i, gGt_i, gLt_i, gAdd_i,  gListL, gTuple, eSl, oN, oS, List.map_cons, List.map_nil, List.map, List.replicate, List.length_cons, List.length_nil, List.nil_append, List.cons_append, List.append_nil, List.set_cons_zero, List.set_cons_succ, List.set, List.length, List.getElem?_cons_zero, List.getElem?_cons_succ, Nat.sub, Nat.reduceSub, Nat.reduceAdd, Nat.reduceLT, Nat.reduceLeDiff, List.getElem?_nil, Bool.false_eq_true, if_true, if_false, Bool.true_and, Bool.false_and, Bool.and_true, Bool.and_false, Bool.not_true, Bool.not_false, Bool.true_or, Bool.or_true, Bool.or_false, Bool.false_or, wipeE, gEq_i, beq_eq_false_iff_ne.mpr h3]
      by_cases h : w < 3
      · have cl : ∀ l u, (J.cutD xs l u).length ≤ 5000 := fun l u => Nat.le_trans cutD_len lx
        have mid : ∃ md, gIx (.lst [.tup [], .tup (J.cutD xs (some k) (some (k + 1)) ++ J.cutD xs (some k) (some (k + 1))), .tup (J.cutD xs (some (k + 1)) (some (k + 2)) ++ J.cutD xs (some k) (some (k + 1)))]) (.int w) = some (.tup md) ∧ md.length ≤ 10000 ∧ ∀ x ∈ md, x ∈ xs := by
          have c1 := cl (some k) (some (k + 1))
          have c2 := cl (some (k + 1)) (some (k + 2))
          have : w = 0 ∨ w = 1 ∨ w = 2 := by omega
          rcases this with rfl | rfl | rfl
          · exact ⟨_, rfl, by simp, fun x m => by simp at m⟩
          · exact ⟨_, rfl, by rw [List.length_append]; omega, fun x m => (List.mem_append.mp m).elim cutD_mem cutD_mem⟩
          · exact ⟨_, rfl, by rw [List.length_append]; omega, fun x m => (List.mem_append.mp m).elim cutD_mem cutD_mem⟩
        obtain ⟨md, I, lmd, mmd⟩ := mid
        have off : ∃ o : Int, gIx (.lst [.int 1, .int 1, .int 2]) (.int w) = some (.int o) := by
          have : w = 0 ∨ w = 1 ∨ w = 2 := by omega
          rcases this with rfl | rfl | rfl <;> exact ⟨_, rfl⟩
        obtain ⟨o, O⟩ := off
        have u1 := cl none (some k)
        have u3 := cl (some (k + o)) none
        have c1 := cl (some k) (some (k + 1))
        have c2 := cl (some (k + 1)) (some (k + 2))
        refine ⟨.tup (J.cutD xs none (some k) ++ md ++ J.cutD xs (some (k + o)) none), S2, (seq_at T2).trans (seq_rt ?_), G_tup (n := m + 3) (by rw [List.length_append, List.length_append]; omega) fun x mx => ?_, F2.mono (by omega)⟩
        · unfold bI2 eB
          simp only [runDef, sSeq, sNil, sRet, sIf, sSet, sSetL, sExt, sApp, sPar, sFreeze, sDrop, eC, eV, eP, e1, e2, l2, eL, aN, aC, aG, aGL, tOf, tAndJ, tOrJ, tNotJ, eAnd, eOr, eNot, eIf, eCh, tTru, gTru, eTup, lDisp, iOf, J.items?, iRg1, iRg2, cYes, bName, bTup, bCons, bNil, mN, mD, mO, setsS, eCall, gIsi, gIsi2, isT_tt, gLen, gI0, gLe_i, gGe_i, gGt_i, gLt_i, gAdd_i,  gListL, gTuple, eSl, oN, oS, List.map_cons, List.map_nil, List.map, List.replicate, List.length_cons, List.length_nil, List.nil_append, List.cons_append, List.append_nil, List.set_cons_zero, List.set_cons_succ, List.set, List.length, List.getElem?_cons_zero, List.getElem?_cons_succ, Nat.sub, Nat.reduceSub, Nat.reduceAdd, Nat.reduceLT, Nat.reduceLeDiff, List.getElem?_nil, Bool.false_eq_true, if_true, if_false, Bool.true_and, Bool.false_and, Bool.and_true, Bool.and_false, Bool.not_true, Bool.not_false, Bool.true_or, Bool.or_true, Bool.or_false, Bool.false_or, wipeE, gEq_i, decide_eq_true h, gSl_t, if_pos (sz (k := 0)), if_pos (sz (k := 3)), gAdd_t (xs := J.cutD xs (some k) (some (k + 1))) (ys := J.cutD xs (some k) (some (k + 1))) (by omega), gAdd_t (xs := J.cutD xs (some (k + 1)) (some (k + 2))) (ys := J.cutD xs (some k) (some (k + 1))) (by omega), I, O, gAdd_t (xs := J.cutD xs none (some k)) (ys := md) (by omega), gAdd_t (xs := J.cutD xs none (some k) ++ md) (ys := J.cutD xs (some (k + o)) none) (by rw [List.length_append]; omega)]
        · rcases List.mem_append.mp mx with mx | mx
          · rcases List.mem_append.mp mx with mx | mx
            · exact (hx x (cutD_mem mx)).G (by omega)
            · exact (hx x (mmd x mx)).G (by omega)
          · exact (hx x (cutD_mem mx)).G (by omega)
      · have T3 : bI2 (eB (.tup xs) (.d (.int (s : Int))) (.d (.int k)) (.d (.int w))) S2 = some (.nx (eB (.tup xs) (.d (.int (s : Int))) (.d (.int k)) (.d (.int w))), S2) := by
          unfold bI2 eB
          simp only [runDef, sSeq, sNil, sRet, sIf, sSet, sSetL, sExt, sApp, sPar, sFreeze, sDrop, eC, eV, eP, e1, e2, l2, eL, aN, aC, aG, aGL, tOf, tAndJ, tOrJ, tNotJ, eAnd, eOr, eNot, eIf, eCh, tTru, gTru, eTup, lDisp, iOf, J.items?, iRg1, iRg2, cYes, bName, bTup, bCons, bNil, mN, mD, mO, setsS, eCall, gIsi, gIsi2, isT_tt, gLen, gI0, gLe_i, gGe_i, gGt_i, gLt_i, gAdd_i,  gListL, gTuple, eSl, oN, oS, List.map_cons, List.map_nil, List.map, List.replicate, List.length_cons, List.length_nil, List.nil_append, List.cons_append, List.append_nil, List.set_cons_zero, List.set_cons_succ, List.set, List.length, List.getElem?_cons_zero, List.getElem?_cons_succ, Nat.sub, Nat.reduceSub, Nat.reduceAdd, Nat.reduceLT, Nat.reduceLeDiff, List.getElem?_nil, Bool.false_eq_true, if_true, if_false, Bool.true_and, Bool.false_and, Bool.and_true, Bool.and_false, Bool.not_true, Bool.not_false, Bool.true_or, Bool.or_true, Bool.or_false, Bool.false_or, wipeE, decide_eq_false h]
        obtain ⟨d', S', e, r⟩ := odd
        exact ⟨d', S', (seq_at T2).trans ((seq_at T3).trans ((seq_at (nx3 w k _ (.inl rfl))).trans ((seq_at (nx4 w k _ (.inl rfl))).trans e))), r⟩
end
end K1

set_option maxHeartbeats 4000000
namespace K1
open PySem PySem.Spec PyProof.Rows L2 J
def bS : GS := (sSet (eIf (tTru (e1 (gIsi2 .tuple .str) (eP 1))) (aG gLen (aC (eP 1) aN)) (eC (.int 0))) (bName 2))
def bR (rec__law_bent : FN) : GS := (sIf (tAndJ (tTru (e1 (gIsi .tuple) (eP 1))) (tAndJ (tOf (e2 gGt (eP 2) (eC (.int 0)))) (tOf (e2 gGt (eCall f__law_draw (aC (eV 0) (aC (eC (.int 4)) aN))) (eC (.int 0)))))) (sSeq (sSet (eCall f__law_draw (aC (eV 0) (aC (eV 2) aN))) (bName 3)) (sRet (e2 gAdd (e2 gAdd (eSl (eP 1) oN (oS (eV 3))) (eTup (aC (eCall rec__law_bent (aC (eV 0) (aC (e2 gIx (eP 1) (eP 3)) aN))) aN))) (eSl (eP 1) (oS (e2 gAdd (eP 3) (eC (.int 1)))) oN)))) sNil)
theorem bs_ok {n : Nat} {d : D} {S : Store} (hd : gd n d) : ∃ s : Nat, bS (eB d .un .un .un) S = some (.nx (eB d (.d (.int (s : Int))) .un .un), S) ∧ s ≤ 10000 ∧ ∀ xs, d = .tup xs → s = xs.length := by
  cases d with
  | frz _ => exact absurd hd.1 (by simp [sm])
  | obj _ => exact absurd hd.1 (by simp [sm])
  | tup xs =>
    obtain ⟨lx, m, rfl, hx⟩ := gd_inv hd
    refine ⟨xs.length, ?_, by omega, fun ys e => by cases e; rfl⟩
    unfold bS eB
    simp only [runDef, sSeq, sNil, sRet, sIf, sSet, sSetL, sExt, sApp, sPar, sFreeze, sDrop, eC, eV, eP, e1, e2, l2, eL, aN, aC, aG, aGL, tOf, tAndJ, tOrJ, tNotJ, eAnd, eOr, eNot, eIf, eCh, tTru, gTru, eTup, lDisp, iOf, J.items?, iRg1, iRg2, cYes, bName, bTup, bCons, bNil, mN, mD, mO, setsS, eCall, gIsi, gIsi2, isT_tt, gLen, gI0, gLe_i, gGe_i, gGt_i, gLt_i, gAdd_i,  gListL, gTuple, eSl, oN, oS, List.map_cons, List.map_nil, List.map, List.replicate, List.length_cons, List.length_nil, List.nil_append, List.cons_append, List.append_nil, List.set_cons_zero, List.set_cons_succ, List.set, List.length, List.getElem?_cons_zero, List.getElem?_cons_succ, Nat.sub, Nat.reduceSub, Nat.reduceAdd, Nat.reduceLT, Nat.reduceLeDiff, List.getElem?_nil, Bool.false_eq_true, if_true, if_false, Bool.true_and, Bool.false_and, Bool.and_true, Bool.and_false, Bool.not_true, Bool.not_false, Bool.true_or, Bool.or_true, Bool.or_false, Bool.false_or, wipeE, show gIsi2 .tuple .str (.tup xs) = some (.bl true) from rfl]
  | str z =>
    have o := (gd_s hd).2
    refine ⟨z.length, ?_, by omega, fun ys e => by cases e⟩
    have I2 : gIsi2 .tuple .str (.str z) = some (.bl true) := rfl
    unfold bS eB sSet eIf tTru e1
    simp only [eP, List.getElem?_cons_zero, List.getElem?_cons_succ, I2, gTru, aG, aC, aN, gLen, if_pos (show z.length ≤ sizeLine by rw [sizeLine_eq]; omega), bName, List.set]
  | non => exact ⟨0, rfl, by decide, fun ys e => by cases e⟩
  | bl b => exact ⟨0, rfl, by decide, fun ys e => by cases e⟩
  | int i => exact ⟨0, rfl, by decide, fun ys e => by cases e⟩
  | lst xs => exact ⟨0, rfl, by decide, fun ys e => by cases e⟩
theorem bent_ok : ∀ (m n : Nat) (d : D) (B : Int) (S : Store), n < m → gd n d → Fd B S → B + 10 * (m : Int) < 700000 → ∃ d' S', f__law_bent m [.obj 0, d] S = some (d', S') ∧ G (n + 3) d' ∧ Fd (B + 10 * (m : Int)) S'
  | 0, n, d, B, S, h, _, _, _ => absurd h (Nat.not_lt_zero n)
  | m + 1, n, d, B, S, h, hd, F, hB => by
    obtain ⟨s, t1, hs, hss⟩ := bs_ok (S := S) hd
    have base : ∀ (B1 : Int) (S1 : Store), Fd B1 S1 → B1 < 800000 → B1 ≤ B + 2 → bR (f__law_bent m) (eB d (.d (.int (s : Int))) .un .un) S = some (.nx (eB d (.d (.int (s : Int))) .un .un), S1) → ∃ d' S', f__law_bent (m + 1) [.obj 0, d] S = some (d', S') ∧ G (n + 3) d' ∧ Fd (B + 10 * ((m + 1 : Nat) : Int)) S' := fun B1 S1 F1 h1 h2 t2 => by
      obtain ⟨d', S', t3, g, F'⟩ := base_ok hd s hs hss F1 h1
      exact ⟨d', S', run_at ((seq_at t1).trans ((seq_at t2).trans t3)), g, F'.mono (by omega)⟩
    cases d with
    | frz _ => exact absurd hd.1 (by simp [sm])
    | obj _ => exact absurd hd.1 (by simp [sm])
    | non => exact base B S F (by omega) (by omega) rfl
    | bl b => exact base B S F (by omega) (by omega) rfl
    | int i => exact base B S F (by omega) (by omega) rfl
    | lst xs => exact base B S F (by omega) (by omega) rfl
    | str z => exact base B S F (by omega) (by omega) rfl
    | tup xs =>
      obtain ⟨lx, n', rfl, hx⟩ := gd_inv hd
      have es := hss xs rfl
      subst es
      by_cases h0 : xs = []
      · subst h0
        exact base B S F (by omega) (by omega) (by unfold bR eB; simp only [runDef, sSeq, sNil, sRet, sIf, sSet, sSetL, sExt, sApp, sPar, sFreeze, sDrop, eC, eV, eP, e1, e2, l2, eL, aN, aC, aG, aGL, tOf, tAndJ, tOrJ, tNotJ, eAnd, eOr, eNot, eIf, eCh, tTru, gTru, eTup, lDisp, iOf, J.items?, iRg1, iRg2, cYes, bName, bTup, bCons, bNil, mN, mD, mO, setsS, eCall, gIsi, gIsi2, isT_tt, gLen, gI0, gLe_i, gGe_i, gGt_i, gLt_i, gAdd_i,  gListL, gTuple, eSl, oN, oS, List.map_cons, List.map_nil, List.map, List.replicate, List.length_cons, List.length_nil, List.nil_append, List.cons_append, List.append_nil, List.set_cons_zero, List.set_cons_succ, List.set, List.length, List.getElem?_cons_zero, List.getElem?_cons_succ, Nat.sub, Nat.reduceSub, Nat.reduceAdd, Nat.reduceLT, Nat.reduceLeDiff, List.getElem?_nil, Bool.false_eq_true, if_true, if_false, Bool.true_and, Bool.false_and, Bool.and_true, Bool.and_false, Bool.not_true, Bool.not_false, Bool.true_or, Bool.or_true, Bool.or_false, Bool.false_or, wipeE, List.length_nil, show decide ((0 : Int) < ((0 : Nat) : Int)) = false from rfl])
      · have pos : (0 : Int) < (xs.length : Int) := by
          have := List.length_pos_iff.mpr h0; omega
        obtain ⟨v, S1, q1, v0, v1, F1⟩ := draw_ok F (by omega) (m := 4) (by decide) (by decide)
        by_cases hv : 0 < v
        · obtain ⟨k, S2, q2, k0, k1, F2⟩ := draw_ok F1 (by omega) (m := (xs.length : Int)) pos (log_small (by omega) (by omega))
          obtain ⟨j, rfl⟩ : ∃ j : Nat, k = (j : Int) := ⟨_, (Int.toNat_of_nonneg k0).symm⟩
          have hj : j < xs.length := by omega
          obtain ⟨d1, S3, q3, g1, F3⟩ := bent_ok m n' xs[j] (B + 1 + 1) S2 (by omega) (hx _ (List.getElem_mem hj)) F2 (by omega)
          have I : gIx (.tup xs) (.int (j : Int)) = some xs[j] := by
            show atI xs (j : Int) = _
            rw [atI_nat, List.getElem?_eq_getElem hj]
          have c1 := Nat.le_trans (cutD_len (xs := xs) (lo := none) (hi := some (j : Int))) lx
          have c2 := Nat.le_trans (cutD_len (xs := xs) (lo := some ((j : Int) + 1)) (hi := none)) lx
          refine ⟨.tup (J.cutD xs none (some (j : Int)) ++ [d1] ++ J.cutD xs (some ((j : Int) + 1)) none), S3, run_at ((seq_at t1).trans (seq_rt ?_)), G_tup (n := n' + 3) (by rw [List.length_append, List.length_append, List.length_singleton]; omega) fun x mx => ?_, F3.mono (by omega)⟩
          · unfold eB
            simp only [runDef, sSeq, sNil, sRet, sIf, sSet, sSetL, sExt, sApp, sPar, sFreeze, sDrop, eC, eV, eP, e1, e2, l2, eL, aN, aC, aG, aGL, tOf, tAndJ, tOrJ, tNotJ, eAnd, eOr, eNot, eIf, eCh, tTru, gTru, eTup, lDisp, iOf, J.items?, iRg1, iRg2, cYes, bName, bTup, bCons, bNil, mN, mD, mO, setsS, eCall, gIsi, gIsi2, isT_tt, gLen, gI0, gLe_i, gGe_i, gGt_i, gLt_i, gAdd_i,  gListL, gTuple, eSl, oN, oS, List.map_cons, List.map_nil, List.map, List.replicate, List.length_cons, List.length_nil, List.nil_append, List.cons_append, List.append_nil, List.set_cons_zero, List.set_cons_succ, List.set, List.length, List.getElem?_cons_zero, List.getElem?_cons_succ, Nat.sub, Nat.reduceSub, Nat.reduceAdd, Nat.reduceLT, Nat.reduceLeDiff, List.getElem?_nil, Bool.false_eq_true, if_true, if_false, Bool.true_and, Bool.false_and, Bool.and_true, Bool.and_false, Bool.not_true, Bool.not_false, Bool.true_or, Bool.or_true, Bool.or_false, Bool.false_or, wipeE, decide_eq_true pos, q1, decide_eq_true hv, q2, I, q3, gSl_t, if_pos (sz (k := 1)), gAdd_t (xs := J.cutD xs none (some (j : Int))) (ys := [d1]) (by rw [List.length_singleton]; omega), gAdd_t (xs := J.cutD xs none (some (j : Int)) ++ [d1]) (ys := J.cutD xs (some ((j : Int) + 1)) none) (by rw [List.length_append, List.length_singleton]; omega)]
          · rcases List.mem_append.mp mx with mx | mx
            · rcases List.mem_append.mp mx with mx | mx
              · exact (hx x (cutD_mem mx)).G (by omega)
              · rw [List.mem_singleton.mp mx]; exact g1
            · exact (hx x (cutD_mem mx)).G (by omega)
        · exact base (B + 1) S1 F1 (by omega) (by omega) (by unfold bR eB; simp only [runDef, sSeq, sNil, sRet, sIf, sSet, sSetL, sExt, sApp, sPar, sFreeze, sDrop, eC, eV, eP, e1, e2, l2, eL, aN, aC, aG, aGL, tOf, tAndJ, tOrJ, tNotJ, eAnd, eOr, eNot, eIf, eCh, tTru, gTru, eTup, lDisp, iOf, J.items?, iRg1, iRg2, cYes, bName, bTup, bCons, bNil, mN, mD, mO, setsS, eCall, gIsi, gIsi2, isT_tt, gLen, gI0, gLe_i, gGe_i, gGt_i, gLt_i, gAdd_i,  gListL, gTuple, eSl, oN, oS, List.map_cons, List.map_nil, List.map, List.replicate, List.length_cons, List.length_nil, List.nil_append, List.cons_append, List.append_nil, List.set_cons_zero, List.set_cons_succ, List.set, List.length, List.getElem?_cons_zero, List.getElem?_cons_succ, Nat.sub, Nat.reduceSub, Nat.reduceAdd, Nat.reduceLT, Nat.reduceLeDiff, List.getElem?_nil, Bool.false_eq_true, if_true, if_false, Bool.true_and, Bool.false_and, Bool.and_true, Bool.and_false, Bool.not_true, Bool.not_false, Bool.true_or, Bool.or_true, Bool.or_false, Bool.false_or, wipeE, decide_eq_true pos, q1, decide_eq_false hv])
/-! ### the law -/
theorem feed_ok {ns : List Int} (h : ns.length ≤ 63) : ∃ S', f__law_feed [.frz (ns.map D.int)] [] = some (.obj 0, S') ∧ Fd 0 S' := by
  have L : iOf (eSl (eP 0) oN (oS (eC (.int 63)))) [.d (.frz (ns.map D.int)), .un] [] = some (J.cutD (ns.map D.int) none (some 63), []) := by
    simp only [runDef, sSeq, sNil, sRet, sIf, sSet, sSetL, sExt, sApp, sPar, sFreeze, sDrop, eC, eV, eP, e1, e2, l2, eL, aN, aC, aG, aGL, tOf, tAndJ, tOrJ, tNotJ, eAnd, eOr, eNot, eIf, eCh, tTru, gTru, eTup, lDisp, iOf, J.items?, iRg1, iRg2, cYes, bName, bTup, bCons, bNil, mN, mD, mO, setsS, eCall, gIsi, gIsi2, isT_tt, gLen, gI0, gLe_i, gGe_i, gGt_i, gLt_i, gAdd_i,  gListL, gTuple, eSl, oN, oS, List.map_cons, List.map_nil, List.map, List.replicate, List.length_cons, List.length_nil, List.nil_append, List.cons_append, List.append_nil, List.set_cons_zero, List.set_cons_succ, List.set, List.length, List.getElem?_cons_zero, List.getElem?_cons_succ, Nat.sub, Nat.reduceSub, Nat.reduceAdd, Nat.reduceLT, Nat.reduceLeDiff, List.getElem?_nil, Bool.false_eq_true, if_true, if_false, Bool.true_and, Bool.false_and, Bool.and_true, Bool.and_false, Bool.not_true, Bool.not_false, Bool.true_or, Bool.or_true, Bool.or_false, Bool.false_or, wipeE, gSl]
  have lc := cutD_len (xs := ns.map D.int) (lo := none) (hi := some 63)
  rw [List.length_map] at lc
  obtain ⟨ys, C, o, l⟩ := lComp_some (P := fun d => ∃ i, d = D.int i) (vs := [1]) (bd := bName 1) (cond := cYes) (elt := aG gInt (aC (eP 1) aN)) L (by omega) fun x mx => by
    obtain ⟨i, _, rfl⟩ := List.mem_map.mp (cutD_mem mx)
    exact ⟨_, rfl, true, rfl, fun _ => ⟨.int i, rfl, i, rfl⟩⟩
  have M : ∀ ys : List D, (∀ y ∈ ys, ∃ i, y = D.int i) → ∃ ks : List Int, ys = ks.map D.int := by
    intro ys
    induction ys with
    | nil => intro _; exact ⟨[], rfl⟩
    | cons y r ih =>
      intro h
      obtain ⟨i, rfl⟩ := h y List.mem_cons_self
      obtain ⟨ks, rfl⟩ := ih fun z m => h z (List.mem_cons_of_mem _ m)
      exact ⟨i :: ks, rfl⟩
  obtain ⟨ks, rfl⟩ := M ys o
  rw [List.length_map] at l
  refine ⟨[ob ks 0 0 0], ?_, ks, 0, 0, 0, rfl, by omega, by decide, by decide, by decide⟩
  refine run_at (ret_at ?_)
  unfold eDict
  simp only [dGo]
  rw [show List.map Slot.d [D.frz (List.map D.int ns)] ++ List.replicate (2 - [D.frz (List.map D.int ns)].length) Slot.un = [.d (.frz (ns.map D.int)), .un] from rfl]
  rw [eL_at C]
  rfl
end K1

set_option maxHeartbeats 4000000
namespace K1
open PySem PySem.Spec PyProof.Rows L2 J
def lE (sc : D) (wh : D) (parts a4 a5 pk th a8 a9 : Slot) : J.Env := [.d sc, .d (.obj 0), .d wh, parts, a4, a5, pk, th, a8, a9]
def lIn : GS := sExt 3 (eL (l2 gCatL (eL (lDisp (aC (eV 5) aN))) (eL (aGL gListL (aC (eP 5) aN)))))
def lOut : GS := sSeq (sApp 3 (eV 4)) (sFor (iOf (eV 4)) (bName 5) lIn)
def inI (sc wh : D) (a4 pk th a8 a9 : Slot) (L0 : Nat) (k : Nat) (ρ : J.Env) : Prop := ∃ (ps : List D) (a5 : Slot), ρ = lE sc wh (.own ps) a4 a5 pk th a8 a9 ∧ (∀ x ∈ ps, gd 4 x) ∧ ps.length ≤ L0 + 5001 * k ∧ 0 < ps.length
def outI (sc wh : D) (pk th a8 a9 : Slot) (k : Nat) (ρ : J.Env) : Prop := ∃ (ps : List D) (a4 a5 : Slot), ρ = lE sc wh (.own ps) a4 a5 pk th a8 a9 ∧ (∀ x ∈ ps, gd 4 x) ∧ ps.length ≤ 1 + 600000 * k ∧ 0 < ps.length
theorem gd.mono {n m : Nat} {d : D} (h : gd n d) (l : n ≤ m) : gd m d := ⟨h.1, Nat.le_trans h.2 l⟩
section
variable {B : Int} {S : Store} {sc wh : D} {a4 a5 pk th a8 a9 : Slot}
theorem in_step {L0 k : Nat} {ρ : J.Env} {x : D} (F : Fd B S) (hx : tg 2 x) (hk : k < 100) (hL : L0 ≤ 2000000) (i : inI sc wh a4 pk th a8 a9 L0 k ρ) : ∃ ρ1, bName 5 x ρ = some ρ1 ∧ ∃ ρ2 S2, lIn ρ1 S = some (.nx ρ2, S2) ∧ inI sc wh a4 pk th a8 a9 L0 (k + 1) ρ2 ∧ Fd (B + 0) S2 := by
  obtain ⟨ps, a5, rfl, hp, lp, p0⟩ := i
  obtain ⟨zs, rfl, gz⟩ := hx
  obtain ⟨lz, m, em, hz⟩ := gd_inv gz
  have c : gCatL (.lst [.tup zs]) (.lst zs) = some ([.tup zs] ++ zs) := if_pos (by rw [sizeLine_eq, List.length_singleton]; omega)
  refine ⟨_, rfl, lE sc wh (.own (ps ++ ([.tup zs] ++ zs))) a4 (.d (.tup zs)) pk th a8 a9, S, ?_, ⟨_, _, rfl, fun y my => ?_, by rw [List.length_append, List.length_append, List.length_singleton]; omega, by rw [List.length_append]; omega⟩, F.mono (by omega)⟩
  · unfold lIn lE
    simp only [runDef, sSeq, sNil, sRet, sIf, sSet, sSetL, sExt, sApp, sPar, sFreeze, sDrop, eC, eV, eP, e1, e2, l2, eL, aN, aC, aG, aGL, tOf, tAndJ, tOrJ, tNotJ, eAnd, eOr, eNot, eIf, eCh, tTru, gTru, eTup, lDisp, iOf, J.items?, iRg1, iRg2, cYes, bName, bTup, bCons, bNil, mN, mD, mO, setsS, eCall, gIsi, gIsi2, isT_tt, gLen, gI0, gLe_i, gGe_i, gGt_i, gLt_i, gAdd_i,  gListL, gTuple, eSl, oN, oS, List.map_cons, List.map_nil, List.map, List.replicate, List.length_cons, List.length_nil, List.nil_append, List.cons_append, List.append_nil, List.set_cons_zero, List.set_cons_succ, List.set, List.length, List.getElem?_cons_zero, List.getElem?_cons_succ, Nat.sub, Nat.reduceSub, Nat.reduceAdd, Nat.reduceLT, Nat.reduceLeDiff, List.getElem?_nil, Bool.false_eq_true, if_true, if_false, Bool.true_and, Bool.false_and, Bool.and_true, Bool.and_false, Bool.not_true, Bool.not_false, Bool.true_or, Bool.or_true, Bool.or_false, Bool.false_or, wipeE, if_pos (sz (k := 1)), c, if_pos (show ps.length + ([D.tup zs] ++ zs).length ≤ sizeLine by rw [sizeLine_eq, List.length_append, List.length_singleton]; omega)]
    exact if_pos (by rw [sizeLine_eq]; omega)
  · rcases List.mem_append.mp my with my | my
    · exact hp y my
    · rcases List.mem_append.mp my with my | my
      · rw [List.mem_singleton.mp my]; exact gz.mono (by decide)
      · exact (hz y my).mono (by omega)
theorem out_step {k : Nat} {ρ : J.Env} {xs : List D} (F : Fd B S) (hx : ∀ x ∈ xs, tg 2 x) (lx : xs.length ≤ 100) (hk : k < 4) (i : outI sc wh pk th a8 a9 k ρ) (hN : B < 900000) : ∃ ρ1, bName 4 (.tup xs) ρ = some ρ1 ∧ ∃ ρ2 S2, lOut ρ1 S = some (.nx ρ2, S2) ∧ outI sc wh pk th a8 a9 (k + 1) ρ2 ∧ Fd (B + 0) S2 := by
  obtain ⟨ps, a4, a5, rfl, hp, lp, p0⟩ := i
  have gx : gd 4 (.tup xs) := gd_tup (n := 3) (by omega) fun x mx => by obtain ⟨_, _, g⟩ := hx x mx; exact g.mono (by decide)
  have T1 : sApp 3 (eV 4) (lE sc wh (.own ps) (.d (.tup xs)) a5 pk th a8 a9) S = some (.nx (lE sc wh (.own (ps ++ [.tup xs])) (.d (.tup xs)) a5 pk th a8 a9), S) := by
    unfold lE
    simp only [runDef, sSeq, sNil, sRet, sIf, sSet, sSetL, sExt, sApp, sPar, sFreeze, sDrop, eC, eV, eP, e1, e2, l2, eL, aN, aC, aG, aGL, tOf, tAndJ, tOrJ, tNotJ, eAnd, eOr, eNot, eIf, eCh, tTru, gTru, eTup, lDisp, iOf, J.items?, iRg1, iRg2, cYes, bName, bTup, bCons, bNil, mN, mD, mO, setsS, eCall, gIsi, gIsi2, isT_tt, gLen, gI0, gLe_i, gGe_i, gGt_i, gLt_i, gAdd_i,  gListL, gTuple, eSl, oN, oS, List.map_cons, List.map_nil, List.map, List.replicate, List.length_cons, List.length_nil, List.nil_append, List.cons_append, List.append_nil, List.set_cons_zero, List.set_cons_succ, List.set, List.length, List.getElem?_cons_zero, List.getElem?_cons_succ, Nat.sub, Nat.reduceSub, Nat.reduceAdd, Nat.reduceLT, Nat.reduceLeDiff, List.getElem?_nil, Bool.false_eq_true, if_true, if_false, Bool.true_and, Bool.false_and, Bool.and_true, Bool.and_false, Bool.not_true, Bool.not_false, Bool.true_or, Bool.or_true, Bool.or_false, Bool.false_or, wipeE, if_pos (show ps.length < sizeLine by rw [sizeLine_eq]; omega)]
  obtain ⟨ρ', S', e, i', F'⟩ := forGo_inv (I := inI sc wh (.d (.tup xs)) pk th a8 a9 (ps.length + 1)) (bd := bName 5) (body := lIn) (k := 0) (N := B) (L := 100) (by decide) xs 0 _ B S ⟨ps ++ [.tup xs], a5, rfl, fun y my => (List.mem_append.mp my).elim (hp y) fun my => by rw [List.mem_singleton.mp my]; exact gx, by rw [List.length_append, List.length_singleton]; omega, by rw [List.length_append, List.length_singleton]; omega⟩ F (by omega) (by omega)
    fun x mx n' ρ' B' S' hn' i' F' hB' => in_step F' (hx x mx) hn' (by omega) i'
  obtain ⟨ps', a5', rfl, hp', lp', p0'⟩ := i'
  exact ⟨_, rfl, _, S', (seq_at T1).trans (for_at (show iOf (eV 4) _ S = some (xs, S) from rfl) e), ⟨ps', _, _, rfl, hp', by omega, p0'⟩, F'.mono (by omega)⟩
end
theorem cat_at {f g : EX} {ρ : J.Env} {S S1 S2 : Store} {xs ys : List D} (h1 : f ρ S = some (.lst xs, S1)) (h2 : g ρ S1 = some (.lst ys, S2)) (hz : xs.length + ys.length ≤ 100000) : l2 gCatL f g ρ S = some (xs ++ ys, S2) := by
  have c : gCatL (.lst xs) (.lst ys) = some (xs ++ ys) := if_pos (by rw [sizeLine_eq]; omega)
  simp only [l2, h1, h2, c]
theorem ext_at {f : EX} {i : Nat} {ρ : J.Env} {S S1 : Store} {xs ys : List D} (h : f ρ S = some (.lst ys, S1)) (ho : ρ[i]? = some (.own xs)) (hz : xs.length + ys.length ≤ 100000) : sExt i f ρ S = some (.nx (ρ.set i (.own (xs ++ ys))), S1) := by
  unfold sExt
  simp only [ho, h]
  exact if_pos (by rw [sizeLine_eq]; omega)
theorem gAdd_l {xs ys : List D} (h : xs.length + ys.length ≤ 100000) : gAdd (.lst xs) (.lst ys) = some (.lst (xs ++ ys)) := if_pos (by rw [sizeLine_eq]; omega)
theorem law_true (ns : List Int) (h : ns.length ≤ 63) : ∃ S', f_law [.frz (ns.map D.int)] [] = some (.bl true, S') := by
  obtain ⟨S1, q1, F1⟩ := feed_ok h
  obtain ⟨rows, ps, prs, bs, S2, q2, hr, hp, hq, hb, lr, lp, lq, lb, F2⟩ := book_ok F1 (by decide)
  let sc : D := .frz (ns.map D.int)
  let wh : D := .tup [.tup rows, .tup ps, .tup prs, .tup bs]
  have part : ∀ {xs : List D}, (∀ x ∈ xs, tg 2 x) → xs.length ≤ 100 → gd 3 (.tup xs) := fun {xs} hx lx => gd_tup (n := 2) (by omega) fun x mx => by obtain ⟨_, _, g⟩ := hx x mx; exact g
  have wparts : ∀ x ∈ ([.tup rows, .tup ps, .tup prs, .tup bs] : List D), gd 3 x := fun x mx => by
    simp only [List.mem_cons, List.not_mem_nil, or_false] at mx
    rcases mx with rfl | rfl | rfl | rfl
    · exact part hr lr
    · exact part hp lp
    · exact part hq lq
    · exact part hb lb
  have gw : gd 4 wh := gd_tup (n := 3) (by simp) wparts
  have T1 : sSet (eCall f__law_feed (aC (eV 0) aN)) (bName 1) ([.d sc] ++ List.replicate 9 .un) [] = some (.nx ([.d sc, .d (.obj 0)] ++ List.replicate 8 .un), S1) := by
    refine set_at (i := 1) ?_
    show f__law_feed [sc] [] = _
    exact q1
  have T2 : sSet (eCall f__law_book (aC (eV 1) aN)) (bName 2) ([.d sc, .d (.obj 0)] ++ List.replicate 8 .un) S1 = some (.nx (lE sc wh .un .un .un .un .un .un .un), S2) := by
    refine set_at (i := 2) ?_
    show f__law_book [.obj 0] S1 = _
    exact q2
  have T3 : sSetL 3 (lDisp (aC (eV 2) aN)) (lE sc wh .un .un .un .un .un .un .un) S2 = some (.nx (lE sc wh (.own [wh]) .un .un .un .un .un .un), S2) := by
    unfold lE
    simp only [runDef, sSeq, sNil, sRet, sIf, sSet, sSetL, sExt, sApp, sPar, sFreeze, sDrop, eC, eV, eP, e1, e2, l2, eL, aN, aC, aG, aGL, tOf, tAndJ, tOrJ, tNotJ, eAnd, eOr, eNot, eIf, eCh, tTru, gTru, eTup, lDisp, iOf, J.items?, iRg1, iRg2, cYes, bName, bTup, bCons, bNil, mN, mD, mO, setsS, eCall, gIsi, gIsi2, isT_tt, gLen, gI0, gLe_i, gGe_i, gGt_i, gLt_i, gAdd_i,  gListL, gTuple, eSl, oN, oS, List.map_cons, List.map_nil, List.map, List.replicate, List.length_cons, List.length_nil, List.nil_append, List.cons_append, List.append_nil, List.set_cons_zero, List.set_cons_succ, List.set, List.length, List.getElem?_cons_zero, List.getElem?_cons_succ, Nat.sub, Nat.reduceSub, Nat.reduceAdd, Nat.reduceLT, Nat.reduceLeDiff, List.getElem?_nil, Bool.false_eq_true, if_true, if_false, Bool.true_and, Bool.false_and, Bool.and_true, Bool.and_false, Bool.not_true, Bool.not_false, Bool.true_or, Bool.or_true, Bool.or_false, Bool.false_or, wipeE, if_pos (sz (k := 1))]
  -- the parts
  obtain ⟨ρ4, S4, e4, i4, F4⟩ := forGo_inv (I := outI sc wh .un .un .un .un) (bd := bName 4) (body := lOut) (k := 0) (N := 6000) (L := 4) (by decide) [.tup rows, .tup ps, .tup prs, .tup bs] 0 (lE sc wh (.own [wh]) .un .un .un .un .un .un) _ S2 ⟨[wh], .un, .un, rfl, fun y my => by rw [List.mem_singleton.mp my]; exact gw, by simp, by simp⟩ F2 (by simp) (by simp)
    fun x mx n' ρ' B' S' hn' i' F' hB' => by
      simp only [List.mem_cons, List.not_mem_nil, or_false] at mx
      rcases mx with rfl | rfl | rfl | rfl
      · exact out_step F' hr lr hn' i' (by omega)
      · exact out_step F' hp lp hn' i' (by omega)
      · exact out_step F' hq lq hn' i' (by omega)
      · exact out_step F' hb lb hn' i' (by omega)
  obtain ⟨pts, a4, a5, rfl, hpts, lpts, pts0⟩ := i4
  have F4 : Fd 6000 S4 := F4.mono (by simp)
  simp only [List.length_cons, List.length_nil] at lpts
  have T4 : sFor (iOf (eV 2)) (bName 4) lOut (lE sc wh (.own [wh]) .un .un .un .un .un .un) S2 = some (.nx (lE sc wh (.own pts) a4 a5 .un .un .un .un), S4) := for_at (show iOf (eV 2) (lE sc wh (.own [wh]) .un .un .un .un .un .un) S2 = some ([.tup rows, .tup ps, .tup prs, .tup bs], S2) from rfl) e4
  -- forty picked
  have L5 : iRg1 (aC (eC (.int 40)) aN) (lE sc wh (.d (.lst pts)) a4 a5 .un .un .un .un) S4 = some (ranged 0 40, S4) := rg1_at (n := 40) rfl (by decide)
  obtain ⟨pk, S5, C5, o5, l5, F5⟩ := lComp_each (P := gd 4) (k := 1) (N := 7000) (vs := [8]) (bd := bName 8) (elt := eCall f__law_pick (aC (eV 1) (aC (eV 3) aN))) (by decide) L5 (by rw [ranged_len]; decide) F4 (by rw [ranged_len]; decide) fun x _ B' S' F' hB' => by
    obtain ⟨y, S2', e, my, F2'⟩ := pick_l (xs := pts) F' (by omega) (List.length_pos_iff.mp pts0) (by omega)
    refine ⟨_, rfl, y, S2', ?_, hpts y my, F2'⟩
    show f__law_pick [.obj 0, .lst pts] S' = _
    exact e
  rw [ranged_len] at l5 F5
  have F5 : Fd 6040 S5 := F5.mono (by decide)
  have T5 : sSet (eL (lComp [8] (iRg1 (aC (eC (.int 40)) aN)) (bName 8) cYes (eCall f__law_pick (aC (eV 1) (aC (eV 3) aN))))) (bName 6) (lE sc wh (.d (.lst pts)) a4 a5 .un .un .un .un) S4 = some (.nx (lE sc wh (.d (.lst pts)) a4 a5 (.d (.lst pk)) .un .un .un), S5) := set_at (i := 6) (eL_at C5)
  -- bent ones
  obtain ⟨bn, S6, C6, o6, l6, F6⟩ := lComp_each (P := G 7) (k := 120) (N := 20000) (vs := [9]) (l := iOf (eP 6)) (bd := bName 9) (elt := eCall (f__law_bent 12) (aC (eV 1) (aC (eV 9) aN))) (ρ := lE sc wh (.d (.lst pts)) a4 a5 (.d (.lst pk)) .un .un .un) (S0 := S5) (xs := pk) (by decide) rfl (by omega) F5 (by rw [l5]; decide) fun x mx B' S' F' hB' => by
    obtain ⟨y, S2', e, gy, F2'⟩ := bent_ok 12 4 x B' S' (by decide) (o5 x mx) F' (by omega)
    refine ⟨_, rfl, y, S2', ?_, gy, F2'⟩
    show f__law_bent 12 [.obj 0, x] S' = _
    exact e
  rw [l5] at l6 F6
  have F6 : Fd 11000 S6 := F6.mono (by decide)
  have T6 : sSetL 7 (l2 gCatL (eL (l2 gCatL (eL (aGL gListL (aC (eP 2) aN))) (eP 6))) (eL (lComp [9] (iOf (eP 6)) (bName 9) cYes (eCall (f__law_bent 12) (aC (eV 1) (aC (eV 9) aN)))))) (lE sc wh (.d (.lst pts)) a4 a5 (.d (.lst pk)) .un .un .un) S5 = some (.nx (lE sc wh (.d (.lst pts)) a4 a5 (.d (.lst pk)) (.own ([.tup rows, .tup ps, .tup prs, .tup bs] ++ pk ++ bn)) .un .un), S6) := by
    have a1 : eL (aGL gListL (aC (eP 2) aN)) (lE sc wh (.d (.lst pts)) a4 a5 (.d (.lst pk)) .un .un .un) S5 = some (.lst [.tup rows, .tup ps, .tup prs, .tup bs], S5) := rfl
    have a2 : eP 6 (lE sc wh (.d (.lst pts)) a4 a5 (.d (.lst pk)) .un .un .un) S5 = some (.lst pk, S5) := rfl
    have a3 := cat_at (eL_at (cat_at a1 a2 (by rw [l5]; simp))) (eL_at C6) (by rw [List.length_append, l5, l6]; simp)
    unfold sSetL
    rw [a3]
    rfl
  -- the book bent twelve times
  have L7 : iRg1 (aC (eC (.int 12)) aN) (lE sc wh (.d (.lst pts)) a4 a5 (.d (.lst pk)) (.own ([.tup rows, .tup ps, .tup prs, .tup bs] ++ pk ++ bn)) .un .un) S6 = some (ranged 0 12, S6) := rg1_at (n := 12) rfl (by decide)
  obtain ⟨b7, S7, C7, o7, l7, F7⟩ := lComp_each (P := G 7) (k := 120) (N := 20000) (vs := [8]) (bd := bName 8) (elt := eCall (f__law_bent 12) (aC (eV 1) (aC (eV 2) aN))) (by decide) L7 (by rw [ranged_len]; decide) F6 (by rw [ranged_len]; decide) fun x mx B' S' F' hB' => by
    obtain ⟨y, S2', e, gy, F2'⟩ := bent_ok 12 4 wh B' S' (by decide) gw F' (by omega)
    refine ⟨_, rfl, y, S2', ?_, gy, F2'⟩
    show f__law_bent 12 [.obj 0, wh] S' = _
    exact e
  rw [ranged_len] at l7 F7
  have F7 : Fd 13000 S7 := F7.mono (by decide)
  generalize hth : ([.tup rows, .tup ps, .tup prs, .tup bs] ++ pk ++ bn : List D) = th at *
  have lth : th.length = 84 := by rw [← hth, List.length_append, List.length_append, l5, l6]; rfl
  have oth : ∀ x ∈ th, G 50 x := fun x mx => by
    rw [← hth] at mx
    rcases List.mem_append.mp mx with mx | mx
    · rcases List.mem_append.mp mx with mx | mx
      · exact (wparts x mx).G (by decide)
      · exact (o5 x mx).G (by decide)
    · exact ⟨(o6 x mx).1, Nat.le_trans (o6 x mx).2 (by decide)⟩
  have T7 : sExt 7 (eL (l2 gCatL (eL (lDisp (aC (eV 2) aN))) (eL (lComp [8] (iRg1 (aC (eC (.int 12)) aN)) (bName 8) cYes (eCall (f__law_bent 12) (aC (eV 1) (aC (eV 2) aN))))))) (lE sc wh (.d (.lst pts)) a4 a5 (.d (.lst pk)) (.own th) .un .un) S6 = some (.nx (lE sc wh (.d (.lst pts)) a4 a5 (.d (.lst pk)) (.own (th ++ ([wh] ++ b7))) .un .un), S7) := by
    have a1 : eL (lDisp (aC (eV 2) aN)) (lE sc wh (.d (.lst pts)) a4 a5 (.d (.lst pk)) (.own th) .un .un) S6 = some (.lst [wh], S6) := by
      unfold lE
      simp only [runDef, sSeq, sNil, sRet, sIf, sSet, sSetL, sExt, sApp, sPar, sFreeze, sDrop, eC, eV, eP, e1, e2, l2, eL, aN, aC, aG, aGL, tOf, tAndJ, tOrJ, tNotJ, eAnd, eOr, eNot, eIf, eCh, tTru, gTru, eTup, lDisp, iOf, J.items?, iRg1, iRg2, cYes, bName, bTup, bCons, bNil, mN, mD, mO, setsS, eCall, gIsi, gIsi2, isT_tt, gLen, gI0, gLe_i, gGe_i, gGt_i, gLt_i, gAdd_i,  gListL, gTuple, eSl, oN, oS, List.map_cons, List.map_nil, List.map, List.replicate, List.length_cons, List.length_nil, List.nil_append, List.cons_append, List.append_nil, List.set_cons_zero, List.set_cons_succ, List.set, List.length, List.getElem?_cons_zero, List.getElem?_cons_succ, Nat.sub, Nat.reduceSub, Nat.reduceAdd, Nat.reduceLT, Nat.reduceLeDiff, List.getElem?_nil, Bool.false_eq_true, if_true, if_false, Bool.true_and, Bool.false_and, Bool.and_true, Bool.and_false, Bool.not_true, Bool.not_false, Bool.true_or, Bool.or_true, Bool.or_false, Bool.false_or, wipeE, if_pos (sz (k := 1))]
    exact ext_at (eL_at (cat_at a1 (eL_at C7) (by rw [l7]; simp))) rfl (by rw [List.length_append, l7, lth]; simp)
  -- odd ones
  have L8 : iRg1 (aC (eC (.int 6)) aN) (lE sc wh (.d (.lst pts)) a4 a5 (.d (.lst pk)) (.own (th ++ ([wh] ++ b7))) .un .un) S7 = some (ranged 0 6, S7) := rg1_at (n := 6) rfl (by decide)
  obtain ⟨b8, S8, C8, o8, l8, F8⟩ := lComp_each (P := gd 3) (k := 1) (N := 20000) (vs := [8]) (bd := bName 8) (elt := eCall f__law_odd (aC (eV 1) aN)) (by decide) L8 (by rw [ranged_len]; decide) F7 (by rw [ranged_len]; decide) fun x mx B' S' F' hB' => by
    obtain ⟨y, S2', e, gy, F2'⟩ := odd_ok F' (by omega)
    refine ⟨_, rfl, y, S2', ?_, gy, F2'⟩
    show f__law_odd [.obj 0] S' = _
    exact e
  rw [ranged_len] at l8
  have T8 : sExt 7 (eL (lComp [8] (iRg1 (aC (eC (.int 6)) aN)) (bName 8) cYes (eCall f__law_odd (aC (eV 1) aN)))) (lE sc wh (.d (.lst pts)) a4 a5 (.d (.lst pk)) (.own (th ++ ([wh] ++ b7))) .un .un) S7 = some (.nx (lE sc wh (.d (.lst pts)) a4 a5 (.d (.lst pk)) (.own (th ++ ([wh] ++ b7) ++ b8)) .un .un), S8) :=
    ext_at (eL_at C8) rfl (by rw [List.length_append, List.length_append, l7, l8, lth]; simp)
  have lf := fix_len
  have T9 : sExt 7 (e2 gAdd (eCall f__law_fixed aN) (eCall f__law_fixed_books aN)) (lE sc wh (.d (.lst pts)) a4 a5 (.d (.lst pk)) (.own (th ++ ([wh] ++ b7) ++ b8)) .un .un) S8 = some (.nx (lE sc wh (.d (.lst pts)) a4 a5 (.d (.lst pk)) (.own (th ++ ([wh] ++ b7) ++ b8 ++ (fixL ++ fixB))) .un .un), S8) := by
    have a1 : eCall f__law_fixed aN (lE sc wh (.d (.lst pts)) a4 a5 (.d (.lst pk)) (.own (th ++ ([wh] ++ b7) ++ b8)) .un .un) S8 = some (.lst fixL, S8) := fixed_eq S8
    have a2 : eCall f__law_fixed_books aN (lE sc wh (.d (.lst pts)) a4 a5 (.d (.lst pk)) (.own (th ++ ([wh] ++ b7) ++ b8)) .un .un) S8 = some (.lst fixB, S8) := fixB_eq S8
    have a3 : gAdd (.lst fixL) (.lst fixB) = some (.lst (fixL ++ fixB)) := gAdd_l (by omega)
    exact ext_at (e2_at a1 a2 a3) rfl (by rw [List.length_append, List.length_append, List.length_append, List.length_append, l7, l8, lth, List.length_singleton]; omega)
  have all : ∀ x ∈ th ++ ([wh] ++ b7) ++ b8 ++ (fixL ++ fixB), G 50 x := fun x mx => by
    rcases List.mem_append.mp mx with mx | mx
    · rcases List.mem_append.mp mx with mx | mx
      · rcases List.mem_append.mp mx with mx | mx
        · exact oth x mx
        · rcases List.mem_append.mp mx with mx | mx
          · rw [List.mem_singleton.mp mx]; exact gw.G (by decide)
          · exact ⟨(o7 x mx).1, Nat.le_trans (o7 x mx).2 (by decide)⟩
      · exact (o8 x mx).G (by decide)
    · rcases List.mem_append.mp mx with mx | mx
      · exact (fixL_ok x mx).G (by decide)
      · exact (fixB_ok x mx).G (by decide)
  have lall : (th ++ ([wh] ++ b7) ++ b8 ++ (fixL ++ fixB)).length ≤ 5000 := by
    rw [List.length_append, List.length_append, List.length_append, List.length_append, List.length_append, l7, l8, lth, List.length_singleton]; omega
  generalize th ++ ([wh] ++ b7) ++ b8 ++ (fixL ++ fixB) = al at *
  have C10 : lComp [9] (iOf (eP 7)) (bName 9) (tNotJ (tTru (eCall f__law_right (aC (eV 9) aN)))) (eV 9) (lE sc wh (.d (.lst pts)) a4 a5 (.d (.lst pk)) (.own al) .un .un) S8 = some (al.filter fun x => !true, S8) :=
    filt_comp _ rfl (by omega) (by simp [lE]) fun x mx => v_right x (all x mx).1 (Nat.le_trans (all x mx).2 (by decide)) S8
  have e10 : (al.filter fun x => !true) = [] := List.filter_eq_nil_iff.mpr fun _ _ => by simp
  rw [e10] at C10
  have T10 : sRet (e2 (gEq false) (eL (lComp [9] (iOf (eP 7)) (bName 9) (tNotJ (tTru (eCall f__law_right (aC (eV 9) aN)))) (eV 9))) (eL (lDisp aN))) (lE sc wh (.d (.lst pts)) a4 a5 (.d (.lst pk)) (.own al) .un .un) S8 = some (.rt (.bl true), S8) := ret_at (e2_at (eL_at C10) (eL_at nil_at) gEq_nn)
  refine ⟨S8, ?_⟩
  have fz : ∀ g, sFreeze 3 g (lE sc wh (.own pts) a4 a5 .un .un .un .un) S4 = g (lE sc wh (.d (.lst pts)) a4 a5 .un .un .un .un) S4 := fun g => rfl
  exact run_at ((seq_at T1).trans ((seq_at T2).trans ((seq_at T3).trans ((seq_at T4).trans ((fz _).trans ((seq_at T5).trans ((seq_at T6).trans ((seq_at T7).trans ((seq_at T8).trans ((seq_at T9).trans T10))))))))))
end K1

open PySem PySem.W PyProof.Rows in
set_option maxRecDepth 100000 in
set_option maxHeartbeats 0 in
theorem PySem.Challenge.cw_rebuiltby_k01_kinds_holds : PySem.Challenge.rw_rebuiltby_k01_kinds.Holds := by
  w_on; o_law; k_head; (case hw => w_witness2)
  k_fill
  refine K1.walk (l := PySem.Challenge.rw_rebuiltby_k01_kinds) K1.law_true rfl rfl (fun w h Y => PySem.W.kIn_of Y) ?F
  case F =>
    intro w mg fa h KX G hmg
    refine' K1.all_mk KX G hmg ?a0 ?l0 ?c0 ?k0 ?a1 ?l1 ?c1 ?k1 ?a2 ?l2 ?c2 ?k2 ?a3 ?l3 ?c3 ?k3 ?a4 ?l4 ?c4 ?k4 ?a5 ?l5 ?c5 ?k5 ?a6 ?l6 ?c6 ?k6 ?a7 ?l7 ?c7 ?k7 ?a8 ?l8 ?c8 ?k8 ?a9 ?l9 ?c9 ?k9 ?a10 ?l10 ?c10 ?k10 ?a11 ?l11 ?c11 ?k11 ?a12 ?l12 ?c12 ?k12 ?a13 ?l13 ?c13 ?k13 ?a14 ?l14 ?c14 ?k14 ?a15 ?l15 ?c15 ?k15 ?a16 ?l16 ?c16 ?k16 ?a17 ?l17 ?c17 ?k17 ?a18 ?l18 ?c18 ?k18 ?a19 ?l19 ?c19 ?k19 ?a20 ?l20 ?c20 ?k20 ?a21 ?l21 ?c21 ?k21 ?a22 ?l22 ?c22 ?k22 ?a23 ?l23 ?c23 ?k23 ?a24 ?l24 ?c24 ?k24 ?a25 ?l25 ?c25 ?k25 ?a26 ?l26 ?c26 ?k26 ?a27 ?l27 ?c27 ?k27 ?a28 ?l28 ?c28 ?k28 ?a29 ?l29 ?c29 ?k29 ?a30 ?l30 ?c30 ?k30 ?a31 ?l31 ?c31 ?k31 ?a32 ?l32 ?c32 ?k32 ?a33 ?l33 ?c33 ?k33 ?a34 ?l34 ?c34 ?k34 ?a35 ?l35 ?c35 ?k35 ?z_all ?z_bool ?z_enumerate ?z_int ?z_isinstance ?z_len ?z_list ?z_range ?z_set ?z_sorted ?z_str ?z_tuple ?q_FIRST_SIGNS ?q_SIGNS ?q_LONGEST_NAME
    (case a0 => k_is)
    (case l0 => k_is)
    (case c0 => k_is)
    (case k0 => k_is)
    (case a1 => k_is)
    (case l1 => k_is)
    (case c1 => k_is)
    (case k1 => k_is)
    (case a2 => k_is)
    (case l2 => k_is)
    (case c2 => k_is)
    (case k2 => k_is)
    (case a3 => k_is)
    (case l3 => k_is)
    (case c3 => k_is)
    (case k3 => k_is)
    (case a4 => k_is)
    (case l4 => k_is)
    (case c4 => k_is)
    (case k4 => k_is)
    (case a5 => k_is)
    (case l5 => k_is)
    (case c5 => k_is)
    (case k5 => k_is)
    (case a6 => k_is)
    (case l6 => k_is)
    (case c6 => k_is)
    (case k6 => k_is)
    (case a7 => k_is)
    (case l7 => k_is)
    (case c7 => k_is)
    (case k7 => k_is)
    (case a8 => k_is)
    (case l8 => k_is)
    (case c8 => k_is)
    (case k8 => k_is)
    (case a9 => k_is)
    (case l9 => k_is)
    (case c9 => k_is)
    (case k9 => k_is)
    (case a10 => k_is)
    (case l10 => k_is)
    (case c10 => k_is)
    (case k10 => k_is)
    (case a11 => k_is)
    (case l11 => k_is)
    (case c11 => k_is)
    (case k11 => k_is)
    (case a12 => k_is)
    (case l12 => k_is)
    (case c12 => k_is)
    (case k12 => k_is)
    (case a13 => k_is)
    (case l13 => k_is)
    (case c13 => k_is)
    (case k13 => k_is)
    (case a14 => k_is)
    (case l14 => k_is)
    (case c14 => k_is)
    (case k14 => k_is)
    (case a15 => k_is)
    (case l15 => k_is)
    (case c15 => k_is)
    (case k15 => k_is)
    (case a16 => k_is)
    (case l16 => k_is)
    (case c16 => k_is)
    (case k16 => k_is)
    (case a17 => k_is)
    (case l17 => k_is)
    (case c17 => k_is)
    (case k17 => k_is)
    (case a18 => k_is)
    (case l18 => k_is)
    (case c18 => k_is)
    (case k18 => k_is)
    (case a19 => k_is)
    (case l19 => k_is)
    (case c19 => k_is)
    (case k19 => k_is)
    (case a20 => k_is)
    (case l20 => k_is)
    (case c20 => k_is)
    (case k20 => k_is)
    (case a21 => k_is)
    (case l21 => k_is)
    (case c21 => k_is)
    (case k21 => k_is)
    (case a22 => k_is)
    (case l22 => k_is)
    (case c22 => k_is)
    (case k22 => k_is)
    (case a23 => k_is)
    (case l23 => k_is)
    (case c23 => k_is)
    (case k23 => k_is)
    (case a24 => k_is)
    (case l24 => k_is)
    (case c24 => k_is)
    (case k24 => k_is)
    (case a25 => k_is)
    (case l25 => k_is)
    (case c25 => k_is)
    (case k25 => k_is)
    (case a26 => k_is)
    (case l26 => k_is)
    (case c26 => k_is)
    (case k26 => k_is)
    (case a27 => k_is)
    (case l27 => k_is)
    (case c27 => k_is)
    (case k27 => k_is)
    (case a28 => k_is)
    (case l28 => k_is)
    (case c28 => k_is)
    (case k28 => k_is)
    (case a29 => k_is)
    (case l29 => k_is)
    (case c29 => k_is)
    (case k29 => k_is)
    (case a30 => k_is)
    (case l30 => k_is)
    (case c30 => k_is)
    (case k30 => k_is)
    (case a31 => k_is)
    (case l31 => k_is)
    (case c31 => k_is)
    (case k31 => k_is)
    (case a32 => k_is)
    (case l32 => k_is)
    (case c32 => k_is)
    (case k32 => k_is)
    (case a33 => k_is)
    (case l33 => k_is)
    (case c33 => k_is)
    (case k33 => k_is)
    (case a34 => k_is)
    (case l34 => k_is)
    (case c34 => k_is)
    (case k34 => k_is)
    (case a35 => k_is)
    (case l35 => k_is)
    (case c35 => k_is)
    (case k35 => k_is)
    (case z_all => k_is)
    (case z_bool => k_is)
    (case z_enumerate => k_is)
    (case z_int => k_is)
    (case z_isinstance => k_is)
    (case z_len => k_is)
    (case z_list => k_is)
    (case z_range => k_is)
    (case z_set => k_is)
    (case z_sorted => k_is)
    (case z_str => k_is)
    (case z_tuple => k_is)
    (case q_FIRST_SIGNS => k_is)
    (case q_SIGNS => k_is)
    (case q_LONGEST_NAME => k_is)
