import PyProof.Rows.All
import Wide.All
import OpenK.AllK
import Wide.FinOn
import HandS.ForMost
import HandS.More
import HandS.Style
import HandS.Wide
import HandS.IsInst
import HandS.Deep
import HandS.TupAny
import HandS.Flow
import HandS.Lambda
import HandS.WordsExc
import HandS.Set
import HandS.SetFor
import HandS.ExcInit
import HandS.ExcField
import HandS.ExcOwn
import HandS.Defaults
import HandS.HeadHook4
import HandS.HeadWalk
import HandS.DictComp
import HandS.Conv
import HandS.Iter
import HandS.NestedK
import HandS.HeadEnd
import HandS.Head0
import HandS.Head1
import HandS.Head2
import PySem.Challenge.RW_rebuiltby_k04_parts
set_option Elab.async false
set_option linter.all false
set_option maxRecDepth 100000
set_option maxHeartbeats 4000000
namespace J
open PySem PySem.Spec PyProof.Rows L2

/-! ## 1. Data, stores, environments -/
inductive D where
  | non | bl (b : Bool) | int (i : Int) | str (x : Str) | lst (xs : List D) | tup (xs : List D) | frz (xs : List D) | obj (n : Nat)
abbrev Ob := List (Str × D)
abbrev Store := List Ob
/-- the tables of code objects that are told -/
abbrev TL := List (Addr × Str)
/-- nothing that is told stands at a, but for a table -/
def Fr (H : Hp) (a : Addr) : Prop := ∀ o, H a = some o → ∃ ps, o = .tbl ps
theorem Fr.of {H : Hp} {a : Addr} (h : H a = none) : Fr H a := fun o e => by rw [h] at e; cases e
theorem Fr.no {H : Hp} {a : Addr} {o : HO} (z : Fr H a) (h : H a = some o) (nt : ∀ ps, o ≠ .tbl ps := by intro _ q; cases q) : False := by
  obtain ⟨ps, e⟩ := z o h
  exact nt ps e
/-- a slot: nothing, a value, a list that nobody else holds -/
inductive Slot where
  | un | d (x : D) | own (xs : List D)
abbrev Env := List Slot

/-- the list of the script: known to the object, or one of the text's own -/
def Fz (K : PySem.W.Frag) (F : Addr → Prop) (H : Hp) (a : Addr) (xs : List V) : Prop := (∃ o, H a = some (.frz o (.lst xs))) ∨ (F a ∧ H a = some (.lst xs)) ∨
    ∃ (o : Obj) (its : Array Value) (n : Nat), K.lookup a = some o ∧ o.cls = .type "list" ∧ o.dict = none ∧ o.data = .seq its n ∧ its.size ≤ sizeLine ∧ Vals xs its.toList
theorem Fz.seq {K : PySem.W.Frag} {F : Addr → Prop} {H : Hp} {a : Addr} {xs : List V} (h : Fz K F H a xs) : SqL K H a xs := h.elim (fun e => .inl (.inr e)) fun h => h.elim (fun e => .inl (.inl e.2)) .inr
theorem Fz.keep {K : PySem.W.Frag} {F F' : Addr → Prop} {H H' : Hp} {a : Addr} {xs : List V} (h : Fz K F H a xs) (f : F a → F' a) (k : ∀ o, H a = some (.frz o (.lst xs)) → H' a = some (.frz o (.lst xs))) (k2 : F a → H a = some (.lst xs) → H' a = some (.lst xs)) : Fz K F' H' a xs :=
  h.elim (fun ⟨o, e⟩ => .inl ⟨o, k o e⟩) fun h => h.elim (fun ⟨q, e⟩ => .inr (.inl ⟨f q, k2 q e⟩)) fun h => .inr (.inr h)
mutual
inductive Rp (K : PySem.W.Frag) (F : Addr → Prop) (α : List Addr) (H : Hp) : V → D → Prop
  | non : Rp K F α H .non .non
  | bl (b : Bool) : Rp K F α H (.bl b) (.bl b)
  | int (i : Int) : Rp K F α H (.int i) (.int i)
  | str (x : Str) : Rp K F α H (.str x) (.str x)
  | lst {a : Addr} {xs : List V} {ds : List D} : F a → H a = some (.lst xs) → RpA K F α H xs ds → Rp K F α H (.ref a) (.lst ds)
  | tup {a : Addr} {xs : List V} {ds : List D} : H a = some (.tup xs) → RpA K F α H xs ds → Rp K F α H (.ref a) (.tup ds)
  | frz {a : Addr} {xs : List V} {ds : List D} : Fz K F H a xs → RpA K F α H xs ds → Rp K F α H (.ref a) (.frz ds)
  | obj {a : Addr} {n : Nat} : α[n]? = some a → Rp K F α H (.ref a) (.obj n)
inductive RpA (K : PySem.W.Frag) (F : Addr → Prop) (α : List Addr) (H : Hp) : List V → List D → Prop
  | nil : RpA K F α H [] []
  | cons {v : V} {vs : List V} {d : D} {ds : List D} : Rp K F α H v d → RpA K F α H vs ds → RpA K F α H (v :: vs) (d :: ds)
end

/-- the store's dicts stand at α -/
structure StR (K : PySem.W.Frag) (Θ : TL) (F : Addr → Prop) (α : List Addr) (H : Hp) (S : Store) : Prop where
  len : α.length = S.length
  nd : α.Nodup
  fa : ∀ a, F a → ¬ Fr H a
  tb : LamX.Tabs Θ H
  ob : ∀ (n : Nat) (a : Addr), α[n]? = some a → ∃ (kvs : List (Key × V)) (o : Ob), S[n]? = some o ∧ H a = some (.dK kvs) ∧
    Paired (fun (p : Key × V) (q : Str × D) => p.1 = Sum.inr q.1 ∧ Rp K F α H p.2 q.2) kvs o

/-- what may have come to pass -/
structure Step (F : Addr → Prop) (α : List Addr) (H : Hp) (F' : Addr → Prop) (α' : List Addr) (H' : Hp) : Prop where
  fm : ∀ a, F a → F' a
  fn : ∀ a, F' a → F a ∨ Fr H a
  ap : ∃ m, α' = α ++ m ∧ ∀ a ∈ m, Fr H a
  hq : ∀ a o, H a = some o → (∀ ps, o ≠ .tbl ps) → a ∉ α → H' a = some o
  hd : ∀ a, a ∈ α → ∃ kvs, H' a = some (.dK kvs)

theorem Step.hp {F F' : Addr → Prop} {α α' : List Addr} {H H' : Hp} (t : Step F α H F' α' H') (a : Addr) (o : HO) (h : H a = some o) (m : a ∉ α) (nt : ∀ ps, o ≠ .tbl ps := by intro _ q; cases q) : H' a = some o := t.hq a o h nt m
def isDK : Option HO → Prop
  | some (.dK _) => True
  | _ => False

section
variable {K : PySem.W.Frag} {F F' F2 : Addr → Prop} {α α' α2 : List Addr} {H H' H2 : Hp} {S S' : Store}
theorem StR.at (s : StR K Θ F α H S) {a : Addr} (h : a ∈ α) : ∃ kvs, H a = some (.dK kvs) := by
  obtain ⟨n, hn⟩ := List.mem_iff_getElem?.mp h
  obtain ⟨kvs, _, _, e, _⟩ := s.ob n a hn
  exact ⟨kvs, e⟩
theorem StR.out (s : StR K Θ F α H S) {a : Addr} {o : HO} (h : H a = some o) (n : ∀ kvs, o ≠ .dK kvs) : a ∉ α := fun m => by
  obtain ⟨kvs, e⟩ := s.at m
  rw [h] at e
  exact n kvs (Option.some.inj e)
theorem Step.refl (s : StR K Θ F α H S) : Step F α H F α H := ⟨fun _ h => h, fun _ h => .inl h, ⟨[], by simp, fun _ h => by simp at h⟩, fun _ _ h _ _ => h, fun _ m => s.at m⟩
theorem Step.back (s : Step F α H F' α' H') {a : Addr} (h : Fr H' a) : Fr H a := fun o e => by
  by_cases m : a ∈ α
  · obtain ⟨kvs, q⟩ := s.hd a m
    exact (h.no q).elim
  · by_cases n : ∃ ps, o = .tbl ps
    · exact n
    · exact (h.no (s.hq a o e (fun ps z => n ⟨ps, z⟩) m) (fun ps z => n ⟨ps, z⟩)).elim
theorem Step.backN (s : Step F α H F' α' H') {a : Addr} (h : H' a = none) : Fr H a := s.back (.of h)
theorem Step.trans (s : Step F α H F' α' H') (t : Step F' α' H' F2 α2 H2) : Step F α H F2 α2 H2 where
  fm := fun a h => t.fm a (s.fm a h)
  fn := fun a h => by
    rcases t.fn a h with h | h
    · exact s.fn a h
    · exact .inr (s.back h)
  ap := by
    obtain ⟨m, e, hm⟩ := s.ap
    obtain ⟨m2, e2, hm2⟩ := t.ap
    refine ⟨m ++ m2, by rw [e2, e, List.append_assoc], fun a h => ?_⟩
    rcases List.mem_append.mp h with h | h
    · exact hm a h
    · exact s.back (hm2 a h)
  hq := fun a o h nt n => by
    refine t.hq a o (s.hq a o h nt n) nt fun m => ?_
    obtain ⟨m1, e, hm⟩ := s.ap
    rw [e] at m
    rcases List.mem_append.mp m with m | m
    · exact n m
    · exact (hm a m).no h nt
  hd := fun a m => by
    obtain ⟨m1, e, _⟩ := s.ap
    exact t.hd a (by rw [e]; exact List.mem_append_left _ m)
mutual
theorem Rp.mono (s : StR K Θ F α H S) (t : Step F α H F' α' H') : ∀ {v : V} {d : D}, Rp K F α H v d → Rp K F' α' H' v d
  | _, _, .non => .non
  | _, _, .bl b => .bl b
  | _, _, .int i => .int i
  | _, _, .str x => .str x
  | _, _, .lst f h r => .lst (t.fm _ f) (t.hp _ _ h (s.out h fun _ e => by cases e)) (RpA.mono s t r)
  | _, _, .tup h r => .tup (t.hp _ _ h (s.out h fun _ e => by cases e)) (RpA.mono s t r)
  | _, _, .frz h r => .frz (h.keep (t.fm _) (fun _ h => t.hp _ _ h (s.out h fun _ e => by cases e)) fun _ h => t.hp _ _ h (s.out h fun _ e => by cases e)) (RpA.mono s t r)
  | _, _, .obj h => .obj (by
      obtain ⟨m, e, _⟩ := t.ap
      rw [e, List.getElem?_append_left (List.getElem?_eq_some_iff.mp h).1]; exact h)
theorem RpA.mono (s : StR K Θ F α H S) (t : Step F α H F' α' H') : ∀ {vs : List V} {ds : List D}, RpA K F α H vs ds → RpA K F' α' H' vs ds
  | _, _, .nil => .nil
  | _, _, .cons h r => .cons (Rp.mono s t h) (RpA.mono s t r)
end
theorem RpA.length : ∀ {vs : List V} {ds : List D}, RpA K F α H vs ds → vs.length = ds.length
  | _, _, .nil => rfl
  | _, _, .cons _ r => by rw [List.length_cons, List.length_cons, RpA.length r]
theorem RpA.get : ∀ {vs : List V} {ds : List D} {i : Nat} {v : V}, RpA K F α H vs ds → vs[i]? = some v → ∃ d, ds[i]? = some d ∧ Rp K F α H v d
  | _, _, _, _, .nil, e => by simp at e
  | _, _, 0, _, .cons h _, e => by simp at e; subst e; exact ⟨_, by simp, h⟩
  | _, _, i + 1, _, .cons _ r, e => by
    obtain ⟨d, h1, h2⟩ := RpA.get (i := i) r (by simpa using e)
    exact ⟨d, by simpa using h1, h2⟩
theorem RpA.getD : ∀ {vs : List V} {ds : List D} {i : Nat} {d : D}, RpA K F α H vs ds → ds[i]? = some d → ∃ v, vs[i]? = some v ∧ Rp K F α H v d
  | _, _, _, _, .nil, e => by simp at e
  | _, _, 0, _, .cons h _, e => by simp at e; subst e; exact ⟨_, by simp, h⟩
  | _, _, i + 1, _, .cons _ r, e => by
    obtain ⟨d, h1, h2⟩ := RpA.getD (i := i) r (by simpa using e)
    exact ⟨d, by simpa using h1, h2⟩
theorem RpA.append : ∀ {vs : List V} {ds : List D} {us : List V} {es : List D}, RpA K F α H vs ds → RpA K F α H us es → RpA K F α H (vs ++ us) (ds ++ es)
  | _, _, _, _, .nil, h => h
  | _, _, _, _, .cons h r, q => .cons h (RpA.append r q)
theorem RpA.take : ∀ {vs : List V} {ds : List D} (n : Nat), RpA K F α H vs ds → RpA K F α H (vs.take n) (ds.take n)
  | _, _, 0, _ => by simp; exact .nil
  | _, _, _ + 1, .nil => .nil
  | _, _, n + 1, .cons h r => .cons h (RpA.take n r)
theorem RpA.drop : ∀ {vs : List V} {ds : List D} (n : Nat), RpA K F α H vs ds → RpA K F α H (vs.drop n) (ds.drop n)
  | _, _, 0, r => r
  | _, _, _ + 1, .nil => .nil
  | _, _, n + 1, .cons _ r => RpA.drop n r
theorem RpA.reverse : ∀ {vs : List V} {ds : List D}, RpA K F α H vs ds → RpA K F α H vs.reverse ds.reverse
  | _, _, .nil => .nil
  | _, _, .cons h r => by
    rw [List.reverse_cons, List.reverse_cons]
    exact RpA.append (RpA.reverse r) (.cons h .nil)
end

section
variable {K : PySem.W.Frag} {F F' : Addr → Prop} {α α' : List Addr} {H H' : Hp} {S : Store}
mutual
theorem Rp.fm (f : ∀ a, F a → F' a) : ∀ {v : V} {d : D}, Rp K F α H v d → Rp K F' α H v d
  | _, _, .non => .non
  | _, _, .bl b => .bl b
  | _, _, .int i => .int i
  | _, _, .str x => .str x
  | _, _, .lst h q r => .lst (f _ h) q (RpA.fm f r)
  | _, _, .tup q r => .tup q (RpA.fm f r)
  | _, _, .frz q r => .frz (q.keep (f _) (fun _ h => h) fun _ h => h) (RpA.fm f r)
  | _, _, .obj h => .obj h
theorem RpA.fm (f : ∀ a, F a → F' a) : ∀ {vs : List V} {ds : List D}, RpA K F α H vs ds → RpA K F' α H vs ds
  | _, _, .nil => .nil
  | _, _, .cons h r => .cons (Rp.fm f h) (RpA.fm f r)
end
end
/-! ## 2. What a step keeps -/
section
variable {K : PySem.W.Frag} {F F' F2 : Addr → Prop} {α α' α2 : List Addr} {H H' H2 : Hp} {S S' : Store} {σ : L2.St} {ρ : Env}
/-- a new object at p -/
theorem Step.new {p : Addr} {o : HO} (s : StR K Θ F α H S) (h : H p = none) : Step F α H F α (upd H p o) :=
  ⟨fun _ h => h, fun _ h => .inl h, ⟨[], by simp, fun _ h => by simp at h⟩, fun a u e _ _ => by rw [upd_ne (ne_of_none e h)]; exact e, fun a m => by
    obtain ⟨kvs, e⟩ := s.at m
    exact ⟨kvs, by rw [upd_ne (ne_of_none e h)]; exact e⟩⟩
/-- a new object at p, known from now on as one that stays -/
theorem Step.newF {p : Addr} {o : HO} (s : StR K Θ F α H S) (h : H p = none) : Step F α H (fun a => F a ∨ a = p) α (upd H p o) :=
  ⟨fun _ h => .inl h, fun a q => q.elim .inl fun e => .inr (.of (by rw [e]; exact h)), ⟨[], by simp, fun _ h => by simp at h⟩, fun a u e _ _ => by rw [upd_ne (ne_of_none e h)]; exact e, fun a m => by
    obtain ⟨kvs, e⟩ := s.at m
    exact ⟨kvs, by rw [upd_ne (ne_of_none e h)]; exact e⟩⟩
theorem tabs_new {p : Addr} {o : HO} (s : LamX.Tabs Θ H) (h : H p = none) : LamX.Tabs Θ (upd H p o) := s.ext fun b u e => by rw [upd_ne (ne_of_none e h)]; exact e
theorem pairedImp {α β : Type} {P Q : α → β → Prop} : ∀ {l₁ : List α} {l₂ : List β}, Paired P l₁ l₂ → (∀ a b, P a b → Q a b) → Paired Q l₁ l₂
  | _, _, .nil, _ => .nil
  | _, _, .cons r t, f => .cons (f _ _ r) (pairedImp t f)
/-- the store stands behind a step that leaves its dicts and adds none -/
theorem StR.mono (s : StR K Θ F α H S) (t : Step F α H F' α H') (k : ∀ a ∈ α, H' a = H a) (hf : ∀ a, F' a → Fr H a → ¬ Fr H' a) (tb : LamX.Tabs Θ H') : StR K Θ F' α H' S :=
  ⟨s.len, s.nd, fun a f q => hf a f (t.back q) q, tb, fun n a e => by
    obtain ⟨kvs, o, h1, h2, h3⟩ := s.ob n a e
    exact ⟨kvs, o, h1, by rw [k a (List.mem_of_getElem? e)]; exact h2, pairedImp h3 fun _ _ q => ⟨q.1, q.2.mono s t⟩⟩⟩
theorem StR.new {p : Addr} {o : HO} (s : StR K Θ F α H S) (h : H p = none) : StR K Θ F α (upd H p o) S :=
  s.mono (Step.new s h) (fun a m => by
    obtain ⟨kvs, e⟩ := s.at m
    exact upd_ne (ne_of_none e h)) (fun a f e => absurd e (s.fa a f)) (tabs_new s.tb h)
theorem StR.newF {p : Addr} {o : HO} (s : StR K Θ F α H S) (h : H p = none) (nt : ∀ ps, o ≠ .tbl ps := by intro _ q; cases q) : StR K Θ (fun a => F a ∨ a = p) α (upd H p o) S :=
  s.mono (Step.newF s h) (fun a m => by
    obtain ⟨kvs, e⟩ := s.at m
    exact upd_ne (ne_of_none e h)) (fun a f e => by
      rcases f with f | f
      · exact absurd e (s.fa a f)
      · rw [f]; exact fun z => z.no upd_same nt) (tabs_new s.tb h)

theorem StR.fm (s : StR K Θ F α H S) (f : ∀ a, F a → F' a) (hf : ∀ a, F' a → F a ∨ ¬ Fr H a) : StR K Θ F' α H S :=
  ⟨s.len, s.nd, fun a q => (hf a q).elim (s.fa a) id, s.tb, fun n a e => by
    obtain ⟨kvs, o, h1, h2, h3⟩ := s.ob n a e
    exact ⟨kvs, o, h1, h2, pairedImp h3 fun _ _ q => ⟨q.1, q.2.fm f⟩⟩⟩
/-- the new list at p is known from now on as one that stays -/
theorem Step.keepF {p : Addr} (t : Step F α H F' α' H') (h : Fr H p) : Step F α H (fun a => F' a ∨ a = p) α' H' :=
  ⟨fun a q => .inl (t.fm a q), fun a q => q.elim (t.fn a) fun e => .inr (by rw [e]; exact h), t.ap, t.hq, t.hd⟩
/-- a slot holds what the environment says -/
def SlotR (K : PySem.W.Frag) (F : Addr → Prop) (α : List Addr) (H : Hp) (o : Option (Option V)) : Slot → Prop
  | .un => True
  | .d x => ∃ v, o = some (some v) ∧ Rp K F α H v x
  | .own xs => ∃ a vs, o = some (some (.ref a)) ∧ H a = some (.lst vs) ∧ ¬ F a ∧ RpA K F α H vs xs
structure EnR (K : PySem.W.Frag) (F : Addr → Prop) (α : List Addr) (H : Hp) (σ : L2.St) (ρ : Env) : Prop where
  len : σ.length = ρ.length
  sl : ∀ (i : Nat) (s : Slot), ρ[i]? = some s → SlotR K F α H σ[i]? s
  di : ∀ (i j : Nat) (xs ys : List D) (a : Addr), ρ[i]? = some (.own xs) → ρ[j]? = some (.own ys) → σ[i]? = some (some (.ref a)) → σ[j]? = some (some (.ref a)) → i = j
theorem SlotR.mono (s : StR K Θ F α H S) (t : Step F α H F' α' H') {o : Option (Option V)} : ∀ {x : Slot}, SlotR K F α H o x → SlotR K F' α' H' o x
  | .un, _ => True.intro
  | .d x, ⟨v, e, r⟩ => ⟨v, e, r.mono s t⟩
  | .own xs, ⟨a, vs, e, h, nf, r⟩ => ⟨a, vs, e, t.hp _ _ h (s.out h fun _ e => by cases e), (fun f => (t.fn a f).elim nf fun z => (z.no h).elim), r.mono s t⟩
theorem EnR.mono (s : StR K Θ F α H S) (t : Step F α H F' α' H') (e : EnR K F α H σ ρ) : EnR K F' α' H' σ ρ := ⟨e.len, fun i x h => (e.sl i x h).mono s t, e.di⟩
theorem EnR.set {v : V} {x : D} (e : EnR K F α H σ ρ) (i : Nat) (r : Rp K F α H v x) : EnR K F α H (σ.set i (some v)) (ρ.set i (.d x)) := by
  refine ⟨by rw [List.length_set, List.length_set]; exact e.len, fun j s h => ?_, fun j k xs ys a h1 h2 h3 h4 => ?_⟩
  · by_cases hj : i = j
    · subst hj
      have hi : i < ρ.length := by
        have := (List.getElem?_eq_some_iff.mp h).1
        rwa [List.length_set] at this
      rw [List.getElem?_set_self hi] at h
      cases h
      refine ⟨v, ?_, r⟩
      rw [List.getElem?_set_self (by rw [e.len]; exact hi)]
    · rw [List.getElem?_set_ne hj] at h
      rw [List.getElem?_set_ne hj]
      exact e.sl j s h
  · have nj : ∀ {j : Nat} {xs : List D}, (ρ.set i (.d x))[j]? = some (.own xs) → i ≠ j := fun {j xs} h z => by
      subst z
      have hi : i < ρ.length := by
        have := (List.getElem?_eq_some_iff.mp h).1
        rwa [List.length_set] at this
      rw [List.getElem?_set_self hi] at h
      cases h
    have n1 := nj h1
    have n2 := nj h2
    rw [List.getElem?_set_ne n1] at h1 h3
    rw [List.getElem?_set_ne n2] at h2 h4
    exact e.di j k xs ys a h1 h2 h3 h4
/-- a slot gets a list of its own -/
theorem EnR.setO {a : Addr} {vs : List V} {xs : List D} (e : EnR K F α H σ ρ) (i : Nat) (h : H a = some (.lst vs)) (nf : ¬ F a) (r : RpA K F α H vs xs) (new : ∀ (j : Nat) (ys : List D), j ≠ i → ρ[j]? = some (.own ys) → σ[j]? ≠ some (some (.ref a))) :
    EnR K F α H (σ.set i (some (.ref a))) (ρ.set i (.own xs)) := by
  refine ⟨by rw [List.length_set, List.length_set]; exact e.len, fun j s h' => ?_, fun j k ys zs b h1 h2 h3 h4 => ?_⟩
  · by_cases hj : i = j
    · subst hj
      have hi : i < ρ.length := by
        have := (List.getElem?_eq_some_iff.mp h').1
        rwa [List.length_set] at this
      rw [List.getElem?_set_self hi] at h'
      cases h'
      refine ⟨a, vs, ?_, h, nf, r⟩
      rw [List.getElem?_set_self (by rw [e.len]; exact hi)]
    · rw [List.getElem?_set_ne hj] at h'
      rw [List.getElem?_set_ne hj]
      exact e.sl j s h'
  · have hi : ∀ {j : Nat} {s : Slot}, (ρ.set i (.own xs))[j]? = some s → i = j → i < σ.length := fun {j s} q z => by
      subst z
      have := (List.getElem?_eq_some_iff.mp q).1
      rw [List.length_set] at this
      rw [e.len]; exact this
    by_cases hj : i = j
    · by_cases hk : i = k
      · exact hj.symm.trans hk
      · subst hj
        rw [List.getElem?_set_self (hi h1 rfl)] at h3
        cases h3
        rw [List.getElem?_set_ne hk] at h2 h4
        exact absurd h4 (new k zs (Ne.symm hk) h2)
    · by_cases hk : i = k
      · subst hk
        rw [List.getElem?_set_self (hi h2 rfl)] at h4
        cases h4
        rw [List.getElem?_set_ne hj] at h1 h3
        exact absurd h3 (new j ys (Ne.symm hj) h1)
      · rw [List.getElem?_set_ne hj] at h1 h3
        rw [List.getElem?_set_ne hk] at h2 h4
        exact e.di j k ys zs b h1 h2 h3 h4
end
end J

set_option maxHeartbeats 4000000
namespace J
open PySem PySem.Spec PyProof.Rows L2

/-! ## 3. What an expression is worth -/
/-- an expression's worth: a value; a test's; a list's items; several values -/
abbrev EX := Env → Store → Option (D × Store)
abbrev ET := Env → Store → Option (Bool × Store)
abbrev EL := Env → Store → Option (List D × Store)

/-- a value that may be a list that somebody holds -/
inductive Rw (K : PySem.W.Frag) (F : Addr → Prop) (α : List Addr) (H : Hp) : V → D → Prop
  | st {v : V} {d : D} : Rp K F α H v d → Rw K F α H v d
  | lst {a : Addr} {vs : List V} {xs : List D} : H a = some (.lst vs) → RpA K F α H vs xs → Rw K F α H (.ref a) (.lst xs)
inductive RwA (K : PySem.W.Frag) (F : Addr → Prop) (α : List Addr) (H : Hp) : List V → List D → Prop
  | nil : RwA K F α H [] []
  | cons {v : V} {vs : List V} {d : D} {ds : List D} : Rw K F α H v d → RwA K F α H vs ds → RwA K F α H (v :: vs) (d :: ds)

section
variable {K : PySem.W.Frag} {F F' F2 : Addr → Prop} {α α' α2 : List Addr} {H H' H2 : Hp} {S S' : Store} {σ : L2.St} {ρ : Env}
theorem Rw.mono (s : StR K Θ F α H S) (t : Step F α H F' α' H') {v : V} {d : D} : Rw K F α H v d → Rw K F' α' H' v d
  | .st r => .st (r.mono s t)
  | .lst h r => .lst (t.hp _ _ h (s.out h fun _ e => by cases e)) (r.mono s t)
theorem RwA.mono (s : StR K Θ F α H S) (t : Step F α H F' α' H') : ∀ {vs : List V} {ds : List D}, RwA K F α H vs ds → RwA K F' α' H' vs ds
  | _, _, .nil => .nil
  | _, _, .cons h r => .cons (h.mono s t) (RwA.mono s t r)
end

/-- f says what the reading gives: a value that stays -/
def tV (K : PySem.W.Frag) (Θ : TL) (f : EX) : TE := fun σ H Q => ∃ F α ρ S d S', StR K Θ F α H S ∧ EnR K F α H σ ρ ∧ f ρ S = some (d, S') ∧
  ∀ v F' α' H', Step F α H F' α' H' → StR K Θ F' α' H' S' → Rp K F' α' H' v d → Q v H'
/-- a value, perhaps a list that somebody holds -/
def tW (K : PySem.W.Frag) (Θ : TL) (f : EX) : TE := fun σ H Q => ∃ F α ρ S d S', StR K Θ F α H S ∧ EnR K F α H σ ρ ∧ f ρ S = some (d, S') ∧
  ∀ v F' α' H', Step F α H F' α' H' → StR K Θ F' α' H' S' → Rw K F' α' H' v d → Q v H'
/-- a new list that nobody holds -/
def tL (K : PySem.W.Frag) (Θ : TL) (f : EL) : TE := fun σ H Q => ∃ F α ρ S ds S', StR K Θ F α H S ∧ EnR K F α H σ ρ ∧ f ρ S = some (ds, S') ∧
  ∀ a vs F' α' H', Step F α H F' α' H' → StR K Θ F' α' H' S' → Fr H a → ¬ F' a → H' a = some (.lst vs) → RpA K F' α' H' vs ds → Q (.ref a) H'
/-- a test -/
def tT (K : PySem.W.Frag) (Θ : TL) (f : ET) : TT := fun σ H Q => ∃ F α ρ S b S', StR K Θ F α H S ∧ EnR K F α H σ ρ ∧ f ρ S = some (b, S') ∧
  ∀ F' α' H', Step F α H F' α' H' → StR K Θ F' α' H' S' → Q b H'
/-- several values that stay | that may be held -/
def tVs (K : PySem.W.Frag) (Θ : TL) (f : EL) : TA := fun σ H Q => ∃ F α ρ S ds S', StR K Θ F α H S ∧ EnR K F α H σ ρ ∧ f ρ S = some (ds, S') ∧
  ∀ vs F' α' H', Step F α H F' α' H' → StR K Θ F' α' H' S' → RpA K F' α' H' vs ds → Q vs H'
def tWs (K : PySem.W.Frag) (Θ : TL) (f : EL) : TA := fun σ H Q => ∃ F α ρ S ds S', StR K Θ F α H S ∧ EnR K F α H σ ρ ∧ f ρ S = some (ds, S') ∧
  ∀ vs F' α' H', Step F α H F' α' H' → StR K Θ F' α' H' S' → RwA K F' α' H' vs ds → Q vs H'

theorem pe_weak {X : Cx} {e : Expr} {t t' : TE} (h : PE X e t) (w : ∀ σ H Q, t' σ H Q → t σ H Q) : PE X e t' := ⟨fun pins s σ H Q I q => h.run pins s σ H Q I (w σ H Q q)⟩
theorem pt_weak {X : Cx} {e : Expr} {t t' : TT} (h : PT X e t) (w : ∀ σ H Q, t' σ H Q → t σ H Q) : PT X e t' := ⟨fun pins s σ H Q I q => h.run pins s σ H Q I (w σ H Q q)⟩
theorem pw_weak {X : Cx} {e : Expr} {t t' : TT} (h : PW X e t) (w : ∀ σ H Q, t' σ H Q → t σ H Q) : PW X e t' := ⟨fun wh pins s σ H Q I q => h.run wh pins s σ H Q I (w σ H Q q)⟩
theorem pa_weak {X : Cx} {es : List Expr} {t t' : TA} (h : PA X es t) (w : ∀ σ H Q, t' σ H Q → t σ H Q) : PA X es t' := ⟨fun pos pins s σ H Q I q => h.run pos pins s σ H Q I (w σ H Q q)⟩

/-! ### the combinators -/
def eC (d : D) : EX := fun _ S => some (d, S)
def eV (i : Nat) : EX := fun ρ S => match ρ[i]? with | some (.d x) => some (x, S) | _ => none
/-- a name whose list is looked at, not taken -/
def eP (i : Nat) : EX := fun ρ S => match ρ[i]? with | some (.d x) => some (x, S) | some (.own xs) => some (.lst xs, S) | _ => none
def e1 (g : D → Option D) (f : EX) : EX := fun ρ S => match f ρ S with | some (x, S1) => (match g x with | some z => some (z, S1) | none => none) | none => none
def e2 (g : D → D → Option D) (f h : EX) : EX := fun ρ S => match f ρ S with | some (x, S1) => (match h ρ S1 with | some (y, S2) => (match g x y with | some z => some (z, S2) | none => none) | none => none) | none => none
/-- a new list made by two values -/
def l2 (g : D → D → Option (List D)) (f h : EX) : EL := fun ρ S => match f ρ S with | some (x, S1) => (match h ρ S1 with | some (y, S2) => (match g x y with | some z => some (z, S2) | none => none) | none => none) | none => none
/-- a new list as a value -/
def eL (f : EL) : EX := fun ρ S => match f ρ S with | some (xs, S1) => some (.lst xs, S1) | none => none
def aN : EL := fun _ S => some ([], S)
def aC (f : EX) (r : EL) : EL := fun ρ S => match f ρ S with | some (x, S1) => (match r ρ S1 with | some (xs, S2) => some (x :: xs, S2) | none => none) | none => none
def aG (g : List D → Option D) (r : EL) : EX := fun ρ S => match r ρ S with | some (xs, S1) => (match g xs with | some z => some (z, S1) | none => none) | none => none
/-- a test from a value that is a bool -/
def tOf (f : EX) : ET := fun ρ S => match f ρ S with | some (.bl b, S1) => some (b, S1) | _ => none
def tAndJ (f g : ET) : ET := fun ρ S => match f ρ S with | some (true, S1) => g ρ S1 | some (false, S1) => some (false, S1) | none => none
def tOrJ (f g : ET) : ET := fun ρ S => match f ρ S with | some (true, S1) => some (true, S1) | some (false, S1) => g ρ S1 | none => none
def tNotJ (f : ET) : ET := fun ρ S => match f ρ S with | some (b, S1) => some (!b, S1) | none => none
def eAnd (f g : EX) : EX := fun ρ S => match f ρ S with | some (.bl true, S1) => g ρ S1 | some (.bl false, S1) => some (.bl false, S1) | _ => none
def eOr (f g : EX) : EX := fun ρ S => match f ρ S with | some (.bl true, S1) => some (.bl true, S1) | some (.bl false, S1) => g ρ S1 | _ => none
def eNot (f : EX) : EX := fun ρ S => match f ρ S with | some (.bl b, S1) => some (.bl (!b), S1) | _ => none
def eIf (c : ET) (f g : EX) : EX := fun ρ S => match c ρ S with | some (true, S1) => f ρ S1 | some (false, S1) => g ρ S1 | none => none

section
variable {X : Cx} {a b c : Expr} {es : List Expr} {f g h : EX} {r : EL} {pos : Pos} {K : PySem.W.Frag}

theorem vw (p : PE X a (tV X.K Θ f)) : PE X a (tW X.K Θ f) := pe_weak p fun σ H Q ⟨F, α, ρ, S, d, S', h1, h2, h3, k⟩ => ⟨F, α, ρ, S, d, S', h1, h2, h3, fun v F' α' H' st hs r => k v F' α' H' st hs (.st r)⟩
theorem lw (p : PE X a (tL X.K Θ r)) : PE X a (tW X.K Θ (eL r)) := pe_weak p fun σ H Q ⟨F, α, ρ, S, d, S', h1, h2, h3, k⟩ => by
  unfold eL at h3
  cases e : r ρ S with
  | none => rw [e] at h3; cases h3
  | some p =>
    obtain ⟨xs, S1⟩ := p
    rw [e] at h3
    cases h3
    exact ⟨F, α, ρ, S, xs, _, h1, h2, e, fun a vs F' α' H' st hs _ _ hl ra => k _ F' α' H' st hs (.lst hl ra)⟩
theorem lv (p : PE X a (tL X.K Θ r)) : PE X a (tV X.K Θ (eL r)) := pe_weak p fun σ H Q ⟨F, α, ρ, S, d, S', h1, h2, h3, k⟩ => by
  unfold eL at h3
  cases e : r ρ S with
  | none => rw [e] at h3; cases h3
  | some p =>
    obtain ⟨xs, S1⟩ := p
    rw [e] at h3
    cases h3
    exact ⟨F, α, ρ, S, xs, _, h1, h2, e, fun a vs F' α' H' st hs hn nf hl ra => k _ (fun b => F' b ∨ b = a) α' H' (st.keepF hn) (hs.fm (fun _ => .inl) fun b q => q.elim .inl fun e => .inr (fun z => (e ▸ z : Fr H' a).no hl)) (.lst (.inr rfl) hl (ra.fm fun _ => .inl))⟩

/-! ### what the combinators say -/
variable {ρ : Env} {S S' : Store} {d : D} {ds : List D} {t u : ET} {tb : Bool}
theorem e1_some {g : D → Option D} (h : e1 g f ρ S = some (d, S')) : ∃ x, f ρ S = some (x, S') ∧ g x = some d := by
  unfold e1 at h
  split at h
  · split at h
    · cases h; exact ⟨_, by assumption, by assumption⟩
    · cases h
  · cases h
theorem e2_some {g : D → D → Option D} (q : e2 g f h ρ S = some (d, S')) : ∃ x S1 y, f ρ S = some (x, S1) ∧ h ρ S1 = some (y, S') ∧ g x y = some d := by
  unfold e2 at q
  split at q
  · split at q
    · split at q
      · cases q; exact ⟨_, _, _, by assumption, by assumption, by assumption⟩
      · cases q
    · cases q
  · cases q
theorem l2_some {g : D → D → Option (List D)} (q : l2 g f h ρ S = some (ds, S')) : ∃ x S1 y, f ρ S = some (x, S1) ∧ h ρ S1 = some (y, S') ∧ g x y = some ds := by
  unfold l2 at q
  split at q
  · split at q
    · split at q
      · cases q; exact ⟨_, _, _, by assumption, by assumption, by assumption⟩
      · cases q
    · cases q
  · cases q
theorem aC_some (q : aC f r ρ S = some (ds, S')) : ∃ x S1 xs, f ρ S = some (x, S1) ∧ r ρ S1 = some (xs, S') ∧ ds = x :: xs := by
  unfold aC at q
  split at q
  · split at q
    · cases q; exact ⟨_, _, _, by assumption, by assumption, rfl⟩
    · cases q
  · cases q
theorem aG_some {g : List D → Option D} (q : aG g r ρ S = some (d, S')) : ∃ xs, r ρ S = some (xs, S') ∧ g xs = some d := by
  unfold aG at q
  split at q
  · split at q
    · cases q; exact ⟨_, by assumption, by assumption⟩
    · cases q
  · cases q

/-! ### rules by values -/
/-- r does what g says -/
def Sp1 (K : PySem.W.Frag) (Θ : TL) (r : V → Hp → VK → Prop) (g : D → Option D) : Prop := ∀ F α H S x dx d Q, StR K Θ F α H S → Rw K F α H x dx → g dx = some d →
  (∀ v F' α' H', Step F α H F' α' H' → StR K Θ F' α' H' S → Rp K F' α' H' v d → Q v H') → r x H Q
def Sp2 (K : PySem.W.Frag) (Θ : TL) (r : R2) (g : D → D → Option D) : Prop := ∀ F α H S x y dx dy d Q, StR K Θ F α H S → Rw K F α H x dx → Rw K F α H y dy → g dx dy = some d →
  (∀ v F' α' H', Step F α H F' α' H' → StR K Θ F' α' H' S → Rp K F' α' H' v d → Q v H') → r x y H Q
def SpL2 (K : PySem.W.Frag) (Θ : TL) (r : R2) (g : D → D → Option (List D)) : Prop := ∀ F α H S x y dx dy ds Q, StR K Θ F α H S → Rw K F α H x dx → Rw K F α H y dy → g dx dy = some ds →
  (∀ a vs F' α' H', Step F α H F' α' H' → StR K Θ F' α' H' S → Fr H a → ¬ F' a → H' a = some (.lst vs) → RpA K F' α' H' vs ds → Q (.ref a) H') → r x y H Q
def SpC (K : PySem.W.Frag) (Θ : TL) (r : List V → Hp → VK → Prop) (g : List D → Option D) : Prop := ∀ F α H S xs dxs d Q, StR K Θ F α H S → RwA K F α H xs dxs → g dxs = some d →
  (∀ v F' α' H', Step F α H F' α' H' → StR K Θ F' α' H' S → Rp K F' α' H' v d → Q v H') → r xs H Q
def SpCL (K : PySem.W.Frag) (Θ : TL) (r : List V → Hp → VK → Prop) (g : List D → Option (List D)) : Prop := ∀ F α H S xs dxs ds Q, StR K Θ F α H S → RwA K F α H xs dxs → g dxs = some ds →
  (∀ a vs F' α' H', Step F α H F' α' H' → StR K Θ F' α' H' S → Fr H a → ¬ F' a → H' a = some (.lst vs) → RpA K F' α' H' vs ds → Q (.ref a) H') → r xs H Q

theorem j_op {e : Expr} {q : R2} {g : D → D → Option D} (sp : Sp2 X.K Θ q g) (raw : PE X e (tOp q (tW X.K Θ f) (tW X.K Θ h))) : PE X e (tV X.K Θ (e2 g f h)) := pe_weak raw fun σ H Q ⟨F, α, ρ, S, d, S', h1, h2, h3, k⟩ => by
  obtain ⟨x, S1, y, a1, a2, a3⟩ := e2_some h3
  exact ⟨F, α, ρ, S, x, S1, h1, h2, a1, fun v F1 α1 H1 st1 hs1 rv => ⟨F1, α1, ρ, S1, y, _, hs1, h2.mono h1 st1, a2, fun v2 F2 α2 H2 st2 hs2 rv2 =>
    sp F2 α2 H2 _ v v2 x y d Q hs2 (rv.mono hs1 st2) rv2 a3 fun v3 F3 α3 H3 st3 hs3 rv3 => k v3 F3 α3 H3 ((st1.trans st2).trans st3) hs3 rv3⟩⟩
theorem j_opL {e : Expr} {q : R2} {g : D → D → Option (List D)} (sp : SpL2 X.K Θ q g) (raw : PE X e (tOp q (tW X.K Θ f) (tW X.K Θ h))) : PE X e (tL X.K Θ (l2 g f h)) := pe_weak raw fun σ H Q ⟨F, α, ρ, S, d, S', h1, h2, h3, k⟩ => by
  obtain ⟨x, S1, y, a1, a2, a3⟩ := l2_some h3
  exact ⟨F, α, ρ, S, x, S1, h1, h2, a1, fun v F1 α1 H1 st1 hs1 rv => ⟨F1, α1, ρ, S1, y, _, hs1, h2.mono h1 st1, a2, fun v2 F2 α2 H2 st2 hs2 rv2 =>
    sp F2 α2 H2 _ v v2 x y d Q hs2 (rv.mono hs1 st2) rv2 a3 fun a vs F3 α3 H3 st3 hs3 hn nf hl rv3 => k a vs F3 α3 H3 ((st1.trans st2).trans st3) hs3 ((st1.trans st2).back hn) nf hl rv3⟩⟩
theorem j_un {e : Expr} {q : V → Hp → VK → Prop} {g : D → Option D} (sp : Sp1 X.K Θ q g) (raw : PE X e (tUn q (tW X.K Θ f))) : PE X e (tV X.K Θ (e1 g f)) := pe_weak raw fun σ H Q ⟨F, α, ρ, S, d, S', h1, h2, h3, k⟩ => by
  obtain ⟨x, a1, a3⟩ := e1_some h3
  exact ⟨F, α, ρ, S, x, _, h1, h2, a1, fun v F1 α1 H1 st1 hs1 rv => sp F1 α1 H1 _ v x d Q hs1 rv a3 fun v3 F3 α3 H3 st3 hs3 rv3 => k v3 F3 α3 H3 (st1.trans st3) hs3 rv3⟩

/-! ### names, constants, lists of arguments -/
theorem j_var (i : Nat) (p : PE X a (tVar i)) : PE X a (tV X.K Θ (eV i)) := pe_weak p fun σ H Q ⟨F, α, ρ, S, d, S', h1, h2, h3, k⟩ => by
  unfold eV at h3
  split at h3
  · rename_i x e
    cases h3
    obtain ⟨v, e1, r⟩ := h2.sl i _ e
    exact ⟨v, e1, k v F α H (Step.refl h1) h1 r⟩
  · cases h3
theorem j_peek (i : Nat) (p : PE X a (tVar i)) : PE X a (tW X.K Θ (eP i)) := pe_weak p fun σ H Q ⟨F, α, ρ, S, d, S', h1, h2, h3, k⟩ => by
  unfold eP at h3
  split at h3
  · rename_i x e
    cases h3
    obtain ⟨v, e1, r⟩ := h2.sl i _ e
    exact ⟨v, e1, k v F α H (Step.refl h1) h1 (.st r)⟩
  · rename_i xs e
    cases h3
    obtain ⟨b, vs, e1, e2, _, r⟩ := h2.sl i _ e
    exact ⟨.ref b, e1, k _ F α H (Step.refl h1) h1 (.lst e2 r)⟩
  · cases h3
/-- the constants -/
inductive CD : V → D → Prop
  | non : CD .non .non | bl (b : Bool) : CD (.bl b) (.bl b) | int (i : Int) : CD (.int i) (.int i) | str (x : Str) : CD (.str x) (.str x)
theorem j_c {v : V} {d : D} (p : PE X a (tC v)) (c : CD v d) : PE X a (tV X.K Θ (eC d)) := pe_weak p fun σ H Q ⟨F, α, ρ, S, d, S', h1, h2, h3, k⟩ => by
  cases h3
  refine k v F α H (Step.refl h1) h1 ?_
  cases c
  · exact .non
  · exact .bl _
  · exact .int _
  · exact .str _
theorem j_an : PA X [] (tVs X.K Θ aN) := pa_weak pa_nil fun σ H Q ⟨F, α, ρ, S, d, S', h1, h2, h3, k⟩ => by
  cases h3
  exact k [] F α H (Step.refl h1) h1 .nil
theorem j_anW : PA X [] (tWs X.K Θ aN) := pa_weak pa_nil fun σ H Q ⟨F, α, ρ, S, d, S', h1, h2, h3, k⟩ => by
  cases h3
  exact k [] F α H (Step.refl h1) h1 .nil
theorem j_ac (p : PE X a (tV X.K Θ f)) (q : PA X es (tVs X.K Θ r)) (hs : starEach (a :: es) X.env = (false, eval a X.env) :: starEach es X.env := by rfl) : PA X (a :: es) (tVs X.K Θ (aC f r)) :=
  pa_weak (pa_cons p q hs) fun σ H Q ⟨F, α, ρ, S, d, S', h1, h2, h3, k⟩ => by
    obtain ⟨x, S1, xs, a1, a2, rfl⟩ := aC_some h3
    exact ⟨F, α, ρ, S, x, S1, h1, h2, a1, fun v F1 α1 H1 st1 hs1 rv => ⟨F1, α1, ρ, S1, xs, _, hs1, h2.mono h1 st1, a2, fun vs F2 α2 H2 st2 hs2 rv2 =>
      k _ F2 α2 H2 (st1.trans st2) hs2 (.cons (rv.mono hs1 st2) rv2)⟩⟩
theorem j_acW (p : PE X a (tW X.K Θ f)) (q : PA X es (tWs X.K Θ r)) (hs : starEach (a :: es) X.env = (false, eval a X.env) :: starEach es X.env := by rfl) : PA X (a :: es) (tWs X.K Θ (aC f r)) :=
  pa_weak (pa_cons p q hs) fun σ H Q ⟨F, α, ρ, S, d, S', h1, h2, h3, k⟩ => by
    obtain ⟨x, S1, xs, a1, a2, rfl⟩ := aC_some h3
    exact ⟨F, α, ρ, S, x, S1, h1, h2, a1, fun v F1 α1 H1 st1 hs1 rv => ⟨F1, α1, ρ, S1, xs, _, hs1, h2.mono h1 st1, a2, fun vs F2 α2 H2 st2 hs2 rv2 =>
      k _ F2 α2 H2 (st1.trans st2) hs2 (.cons (rv.mono hs1 st2) rv2)⟩⟩
/-- a call by values -/
theorem j_cb {e : Expr} {q : List V → Hp → VK → Prop} {g : List D → Option D} (sp : SpC X.K Θ q g) (raw : PE X e (tCB q (tWs X.K Θ r))) : PE X e (tV X.K Θ (aG g r)) := pe_weak raw fun σ H Q ⟨F, α, ρ, S, d, S', h1, h2, h3, k⟩ => by
  obtain ⟨xs, a1, a3⟩ := aG_some h3
  exact ⟨F, α, ρ, S, xs, _, h1, h2, a1, fun v F1 α1 H1 st1 hs1 rv => sp F1 α1 H1 _ v xs d Q hs1 rv a3 fun v3 F3 α3 H3 st3 hs3 rv3 => k v3 F3 α3 H3 (st1.trans st3) hs3 rv3⟩

/-! ### tests -/
theorem tOf_some (q : tOf f ρ S = some (tb, S')) : f ρ S = some (.bl tb, S') := by
  unfold tOf at q
  split at q
  · cases q; assumption
  · cases q
/-- a value of a bool as a test: the raw rule gives tTest | tB -/
theorem j_test (raw : PT X a (tTest (tV X.K Θ f))) : PT X a (tT X.K Θ (tOf f)) := pt_weak raw fun σ H Q ⟨F, α, ρ, S, d, S', h1, h2, h3, k⟩ =>
  ⟨F, α, ρ, S, _, _, h1, h2, tOf_some h3, fun v F1 α1 H1 st1 hs1 rv => by cases rv; exact ⟨_, rfl, k F1 α1 H1 st1 hs1⟩⟩
theorem j_val (p : PE X a (tV X.K Θ f)) (he : ∀ whole, isTrue a X.env whole = (do let v ← whole; standAt a.pos; holding [v] (truthy v)) := by intro _; rfl) : PT X a (tT X.K Θ (tOf f)) := j_test (pt_val p he)
theorem j_and1 (p : PT X a (tT X.K Θ t)) : PW X (.BoolOp .And [a] pos) (tT X.K Θ t) := pw_and1 p
theorem j_or1 (p : PT X a (tT X.K Θ t)) : PW X (.BoolOp .Or [a] pos) (tT X.K Θ t) := pw_or1 p
theorem j_and (p : PT X a (tT X.K Θ t)) (q : PW X (.BoolOp .And (b :: es) pos) (tT X.K Θ u)) : PW X (.BoolOp .And (a :: b :: es) pos) (tT X.K Θ (tAndJ t u)) := pw_weak (pw_and p q) fun σ H Q ⟨F, α, ρ, S, d, S', h1, h2, h3, k⟩ => by
  unfold tAndJ at h3
  split at h3
  · rename_i S1 e
    exact ⟨F, α, ρ, S, _, _, h1, h2, e, fun F1 α1 H1 st1 hs1 => iteT ⟨F1, α1, ρ, S1, d, S', hs1, h2.mono h1 st1, h3, fun F2 α2 H2 st2 hs2 => k F2 α2 H2 (st1.trans st2) hs2⟩⟩
  · rename_i S1 e
    cases h3
    exact ⟨F, α, ρ, S, _, _, h1, h2, e, fun F1 α1 H1 st1 hs1 => iteF (k F1 α1 H1 st1 hs1)⟩
  · cases h3
theorem j_or (p : PT X a (tT X.K Θ t)) (q : PW X (.BoolOp .Or (b :: es) pos) (tT X.K Θ u)) : PW X (.BoolOp .Or (a :: b :: es) pos) (tT X.K Θ (tOrJ t u)) := pw_weak (pw_or p q) fun σ H Q ⟨F, α, ρ, S, d, S', h1, h2, h3, k⟩ => by
  unfold tOrJ at h3
  split at h3
  · rename_i S1 e
    cases h3
    exact ⟨F, α, ρ, S, _, _, h1, h2, e, fun F1 α1 H1 st1 hs1 => iteT (k F1 α1 H1 st1 hs1)⟩
  · rename_i S1 e
    exact ⟨F, α, ρ, S, _, _, h1, h2, e, fun F1 α1 H1 st1 hs1 => iteF ⟨F1, α1, ρ, S1, d, S', hs1, h2.mono h1 st1, h3, fun F2 α2 H2 st2 hs2 => k F2 α2 H2 (st1.trans st2) hs2⟩⟩
  · cases h3
theorem j_not (p : PT X a (tT X.K Θ t)) : PT X (.UnaryOp .Not a pos) (tT X.K Θ (tNotJ t)) := pt_weak (pt_not p) fun σ H Q ⟨F, α, ρ, S, d, S', h1, h2, h3, k⟩ => by
  unfold tNotJ at h3
  split at h3
  · rename_i b S1 e
    cases h3
    exact ⟨F, α, ρ, S, _, _, h1, h2, e, fun F1 α1 H1 st1 hs1 => k F1 α1 H1 st1 hs1⟩
  · cases h3
theorem j_one {op} (p : PE X a (tV X.K Θ f)) : PE X (.BoolOp op [a] pos) (tV X.K Θ f) := pe_one p
theorem j_andV (p : PE X a (tV X.K Θ f)) (q : PE X (.BoolOp .And (b :: es) pos) (tV X.K Θ g)) : PE X (.BoolOp .And (a :: b :: es) pos) (tV X.K Θ (eAnd f g)) := pe_weak (pe_and p q) fun σ H Q ⟨F, α, ρ, S, d, S', h1, h2, h3, k⟩ => by
  unfold eAnd at h3
  split at h3
  · rename_i S1 e
    exact ⟨F, α, ρ, S, _, _, h1, h2, e, fun v F1 α1 H1 st1 hs1 rv => by cases rv; exact ⟨_, rfl, iteT ⟨F1, α1, ρ, S1, d, S', hs1, h2.mono h1 st1, h3, fun v F2 α2 H2 st2 hs2 => k v F2 α2 H2 (st1.trans st2) hs2⟩⟩⟩
  · rename_i S1 e
    cases h3
    exact ⟨F, α, ρ, S, _, _, h1, h2, e, fun v F1 α1 H1 st1 hs1 rv => by cases rv; exact ⟨_, rfl, iteF (k _ F1 α1 H1 st1 hs1 (.bl _))⟩⟩
  · cases h3
theorem j_orV (p : PE X a (tV X.K Θ f)) (q : PE X (.BoolOp .Or (b :: es) pos) (tV X.K Θ g)) : PE X (.BoolOp .Or (a :: b :: es) pos) (tV X.K Θ (eOr f g)) := pe_weak (pe_or p q) fun σ H Q ⟨F, α, ρ, S, d, S', h1, h2, h3, k⟩ => by
  unfold eOr at h3
  split at h3
  · rename_i S1 e
    cases h3
    exact ⟨F, α, ρ, S, _, _, h1, h2, e, fun v F1 α1 H1 st1 hs1 rv => by cases rv; exact ⟨_, rfl, iteT (k _ F1 α1 H1 st1 hs1 (.bl _))⟩⟩
  · rename_i S1 e
    exact ⟨F, α, ρ, S, _, _, h1, h2, e, fun v F1 α1 H1 st1 hs1 rv => by cases rv; exact ⟨_, rfl, iteF ⟨F1, α1, ρ, S1, d, S', hs1, h2.mono h1 st1, h3, fun v F2 α2 H2 st2 hs2 => k v F2 α2 H2 (st1.trans st2) hs2⟩⟩⟩
  · cases h3
theorem j_notV (p : PE X a (tV X.K Θ f)) : PE X (.UnaryOp .Not a pos) (tV X.K Θ (eNot f)) := pe_weak (pe_not p) fun σ H Q ⟨F, α, ρ, S, d, S', h1, h2, h3, k⟩ => by
  unfold eNot at h3
  split at h3
  · rename_i b S1 e
    cases h3
    exact ⟨F, α, ρ, S, _, _, h1, h2, e, fun v F1 α1 H1 st1 hs1 rv => by cases rv; exact ⟨_, rfl, k _ F1 α1 H1 st1 hs1 (.bl _)⟩⟩
  · cases h3
theorem j_if (p : PT X c (tT X.K Θ t)) (q : PE X a (tV X.K Θ f)) (q2 : PE X b (tV X.K Θ g)) : PE X (.IfExp c a b pos) (tV X.K Θ (eIf t f g)) := pe_weak (pe_ifExp p q q2) fun σ H Q ⟨F, α, ρ, S, d, S', h1, h2, h3, k⟩ => by
  unfold eIf at h3
  split at h3
  · rename_i S1 e
    exact ⟨F, α, ρ, S, _, _, h1, h2, e, fun F1 α1 H1 st1 hs1 => iteT ⟨F1, α1, ρ, S1, d, S', hs1, h2.mono h1 st1, h3, fun v F2 α2 H2 st2 hs2 => k v F2 α2 H2 (st1.trans st2) hs2⟩⟩
  · rename_i S1 e
    exact ⟨F, α, ρ, S, _, _, h1, h2, e, fun F1 α1 H1 st1 hs1 => iteF ⟨F1, α1, ρ, S1, d, S', hs1, h2.mono h1 st1, h3, fun v F2 α2 H2 st2 hs2 => k v F2 α2 H2 (st1.trans st2) hs2⟩⟩
  · cases h3
end
end J

set_option maxHeartbeats 4000000
namespace J
open PySem PySem.Spec PyProof.Rows L2

section
variable {K : PySem.W.Frag} {F F' F2 : Addr → Prop} {α α' α2 : List Addr} {H H' H2 : Hp} {S S' : Store} {v : V} {d : D}
/-! ### what a value of a kind is -/
theorem Rw.int {i : Int} (r : Rw K F α H v (.int i)) : v = .int i := by cases r with | st r => cases r; rfl
theorem Rw.str {x : Str} (r : Rw K F α H v (.str x)) : v = .str x := by cases r with | st r => cases r; rfl
theorem Rw.bl {b : Bool} (r : Rw K F α H v (.bl b)) : v = .bl b := by cases r with | st r => cases r; rfl
theorem Rw.non (r : Rw K F α H v .non) : v = .non := by cases r with | st r => cases r; rfl
theorem Rw.lst' {xs : List D} (r : Rw K F α H v (.lst xs)) : ∃ a vs, v = .ref a ∧ H a = some (.lst vs) ∧ RpA K F α H vs xs := by
  cases r with
  | st r => cases r with | lst f h q => exact ⟨_, _, rfl, h, q⟩
  | lst h q => exact ⟨_, _, rfl, h, q⟩
theorem Rw.frz' {xs : List D} (r : Rw K F α H v (.frz xs)) : ∃ a vs, v = .ref a ∧ Fz K F H a vs ∧ RpA K F α H vs xs := by
  cases r with
  | st r => cases r with | frz h q => exact ⟨_, _, rfl, h, q⟩
theorem Rw.tup' {xs : List D} (r : Rw K F α H v (.tup xs)) : ∃ a vs, v = .ref a ∧ H a = some (.tup vs) ∧ RpA K F α H vs xs := by
  cases r with
  | st r => cases r with | tup h q => exact ⟨_, _, rfl, h, q⟩
theorem Rw.obj' {n : Nat} (r : Rw K F α H v (.obj n)) : ∃ a, v = .ref a ∧ α[n]? = some a := by
  cases r with
  | st r => cases r with | obj h => exact ⟨_, rfl, h⟩
/-- the value itself -/
abbrev Post (K : PySem.W.Frag) (Θ : TL) (F : Addr → Prop) (α : List Addr) (H : Hp) (S : Store) (d : D) (Q : VK) : Prop := ∀ v F' α' H', Step F α H F' α' H' → StR K Θ F' α' H' S → Rp K F' α' H' v d → Q v H'
theorem Post.here {Q : VK} (q : Post K Θ F α H S d Q) (s : StR K Θ F α H S) (r : Rp K F α H v d) : Q v H := q v F α H (Step.refl s) s r
/-- a new tuple, a new list -/
theorem Post.tup {Q : VK} {xs : List V} {ds : List D} (q : Post K Θ F α H S (.tup ds) Q) (s : StR K Θ F α H S) (r : RpA K F α H xs ds) : ∀ p, H p = none → Q (.ref p) (upd H p (.tup xs)) := fun p hp =>
  q _ F α _ (Step.new s hp) (s.new hp) (.tup upd_same (r.mono s (Step.new s hp)))
theorem Post.lst {Q : VK} {xs : List V} {ds : List D} (q : Post K Θ F α H S (.lst ds) Q) (s : StR K Θ F α H S) (r : RpA K F α H xs ds) : ∀ p, H p = none → Q (.ref p) (upd H p (.lst xs)) := fun p hp =>
  q _ _ α _ (Step.newF s hp) (s.newF hp) (.lst (.inr rfl) upd_same (r.mono s (Step.newF s hp)))
abbrev PostL (K : PySem.W.Frag) (Θ : TL) (F : Addr → Prop) (α : List Addr) (H : Hp) (S : Store) (ds : List D) (Q : VK) : Prop := ∀ a vs F' α' H', Step F α H F' α' H' → StR K Θ F' α' H' S → Fr H a → ¬ F' a → H' a = some (.lst vs) → RpA K F' α' H' vs ds → Q (.ref a) H'
theorem PostL.lst {Q : VK} {xs : List V} {ds : List D} (q : PostL K Θ F α H S ds Q) (s : StR K Θ F α H S) (r : RpA K F α H xs ds) : ∀ p, H p = none → Q (.ref p) (upd H p (.lst xs)) := fun p hp =>
  q _ xs F α _ (Step.new s hp) (s.new hp) (.of hp) (fun f => s.fa p f (.of hp)) upd_same (r.mono s (Step.new s hp))

theorem opr_or {X : Cx} {f : Value → Value → Sem Value} {r r' : R2} (h : OpR X f r) (h' : OpR X f r') : OpR X f (fun x y H Q => r x y H Q ∨ r' x y H Q) := by
  intro pins s σ H x y v u Q I rx ry q
  rcases q with q | q
  · exact h pins s σ H x y v u Q I rx ry q
  · exact h' pins s σ H x y v u Q I rx ry q
theorem callr_or {X : Cx} {f : Value} {r r' : List V → Hp → VK → Prop} (h : CallR X f r) (h' : CallR X f r') : CallR X f (fun x H Q => r x H Q ∨ r' x H Q) := by
  intro pins s σ H xs us Q I rx q
  rcases q with q | q
  · exact h pins s σ H xs us Q I rx q
  · exact h' pins s σ H xs us Q I rx q

/-! ### + - * // % ** -/
abbrev rAddS : R2 := fun x y H Q => ∃ i j, x = .str i ∧ y = .str j ∧ i.length + j.length ≤ sizeLine ∧ Q (.str (i ++ j)) H
abbrev rAdd0 (K : PySem.W.Frag) : R2 := fun x y H Q => (rI0 (fun i j => .int (i + j)) x y H Q ∨ rAddS x y H Q) ∨ (rCatA K x y H Q ∨ rCat x y H Q)
theorem op_addJ0 {X : Cx} : OpR X (binaryOp .Add) (rAdd0 X.K) := opr_or (opr_or op_add op_add_str) (opr_or op_catA op_cat)
def gAdd0 : D → D → Option D
  | .int i, .int j => some (.int (i + j))
  | .str x, .str y => if x.length + y.length ≤ sizeLine then some (.str (x ++ y)) else none
  | .tup xs, .tup ys => if xs.length + ys.length ≤ sizeLine then some (.tup (xs ++ ys)) else none
  | .lst xs, .lst ys => if xs.length + ys.length ≤ sizeLine then some (.lst (xs ++ ys)) else none
  | _, _ => none
theorem RpA.nil_of {vs : List V} {ds : List D} (r : RpA K F α H vs ds) (h : vs = []) : ds = [] := by subst h; cases r; rfl
theorem sp_add0 : Sp2 K Θ (rAdd0 K) gAdd0 := by
  intro F α H S x y dx dy d Q s rx ry e q
  unfold gAdd0 at e
  split at e
  · cases e; cases rx.int; cases ry.int
    exact .inl (.inl ⟨_, _, rfl, rfl, Post.here q s (.int _)⟩)
  · split at e
    · cases e; cases rx.str; cases ry.str
      exact .inl (.inr ⟨_, _, rfl, rfl, by assumption, Post.here q s (.str _)⟩)
    · cases e
  · split at e
    · rename_i hz
      cases e
      obtain ⟨a, vs, rfl, ha, r1⟩ := rx.tup'
      obtain ⟨b, us, rfl, hb, r2⟩ := ry.tup'
      refine .inr (.inl ⟨a, b, vs, us, rfl, rfl, SqT.of ha, SqT.of hb, by rw [r1.length, r2.length]; exact hz, fun e => ?_, fun _ e => ?_, fun _ _ => Post.tup q s (r1.append r2)⟩)
      · rw [r1.nil_of e] at q
        exact Post.here q s (.tup hb r2)
      · rw [r2.nil_of e, List.append_nil] at q
        exact Post.here q s (.tup ha r1)
    · cases e
  · split at e
    · rename_i hz
      cases e
      obtain ⟨a, vs, rfl, ha, r1⟩ := rx.lst'
      obtain ⟨b, us, rfl, hb, r2⟩ := ry.lst'
      exact .inr (.inr ⟨a, b, vs, us, rfl, rfl, ha, hb, by rw [r1.length, r2.length]; exact hz, Post.lst q s (r1.append r2)⟩)
    · cases e
  · cases e
def gCatL : D → D → Option (List D)
  | .lst xs, .lst ys => if xs.length + ys.length ≤ sizeLine then some (xs ++ ys) else none
  | _, _ => none
theorem sp_catL0 : SpL2 K Θ (rAdd0 K) gCatL := by
  intro F α H S x y dx dy d Q s rx ry e q
  unfold gCatL at e
  split at e
  · split at e
    · rename_i hz
      cases e
      obtain ⟨a, vs, rfl, ha, r1⟩ := rx.lst'
      obtain ⟨b, us, rfl, hb, r2⟩ := ry.lst'
      exact .inr (.inr ⟨a, b, vs, us, rfl, rfl, ha, hb, by rw [r1.length, r2.length]; exact hz, PostL.lst q s (r1.append r2)⟩)
    · cases e
  · cases e
/-! ### .. of a bool and an int -/
theorem gives_addBI (p : Bool) (b : Int) (u : Tok) : Gives (Builtin.«int.__gt__» ⟨[.bool p, .int b u], []⟩) (.val (Value.bool (decide (b < if p = true then (1 : Int) else 0)))) :=
  .of_wp fun M A E s Q h => by obtain ⟨hp, g, d, tk, os⟩ := s; wp_walk; exact ⟨_, rfl, h⟩
theorem gt_boolInt {prog : Program} {w : World} {A : Around} {E : Value → Shared → Prop} {s : Shared} {p : Bool} {b : Int} {u : Tok} {Q : Value → Shared → Prop} (h : Q (.bool (decide (b < if p = true then (1 : Int) else 0))) s) : wpAny (model prog w) A (compareOp .Gt (.bool p) (.int b u)) Q E s := by
  show wpAny _ A (richCompare .Gt _ _) Q E s
  exact wpAny_richCompare_left (typeIs_bool' s p) (typeIs_int s b u) (by decide) F.sub_int_bool F.slot_bool_gt (call_gives F.slot_bool_gt (typeIs_bool' s p) F.entry_int_gt (F.args_int_gt_2 _ _) (gives_addBI p b u) ⟨nofun, h⟩)
abbrev rAddB : R2 := fun x y H Q => ∃ (p : Bool) (j : Int), x = .bl p ∧ y = .int j ∧ Q (.int ((if p = true then (1 : Int) else 0) + j)) H
abbrev rGtB : R2 := fun x y H Q => ∃ (p : Bool) (j : Int), x = .bl p ∧ y = .int j ∧ Q (.bl (decide (j < if p = true then (1 : Int) else 0))) H
theorem op_addB {X : Cx} : OpR X (binaryOp .Add) rAddB := by
  intro pins s σ H x y v u Q I rx ry h
  obtain ⟨p, j, rfl, rfl, q⟩ := h
  cases rx
  obtain ⟨t, rfl⟩ := ry
  exact IntBool.add_bool_int ⟨.int _, H, I.tok _, ⟨_, rfl⟩, q⟩
theorem op_gtB {X : Cx} : OpR X (compareOp .Gt) rGtB := by
  intro pins s σ H x y v u Q I rx ry h
  obtain ⟨p, j, rfl, rfl, q⟩ := h
  cases rx
  obtain ⟨t, rfl⟩ := ry
  exact gt_boolInt ⟨.bl _, H, I, rfl, q⟩
abbrev rAdd (K : PySem.W.Frag) : R2 := fun x y H Q => rAdd0 K x y H Q ∨ rAddB x y H Q
theorem op_addJ {X : Cx} : OpR X (binaryOp .Add) (rAdd X.K) := opr_or op_addJ0 op_addB
def gAdd : D → D → Option D
  | .int i, .int j => some (.int (i + j))
  | .str x, .str y => if x.length + y.length ≤ sizeLine then some (.str (x ++ y)) else none
  | .tup xs, .tup ys => if xs.length + ys.length ≤ sizeLine then some (.tup (xs ++ ys)) else none
  | .lst xs, .lst ys => if xs.length + ys.length ≤ sizeLine then some (.lst (xs ++ ys)) else none
  | .bl p, .int j => some (.int ((if p = true then (1 : Int) else 0) + j))
  | _, _ => none
theorem sp_add : Sp2 K Θ (rAdd K) gAdd := by
  intro F α H S x y dx dy d Q s rx ry e q
  have way : gAdd0 dx dy = some d ∨ ∃ p j, dx = .bl p ∧ dy = .int j ∧ d = .int ((if p = true then (1 : Int) else 0) + j) := by
    cases dx <;> cases dy <;> first | exact .inl e | (cases e; exact .inr ⟨_, _, rfl, rfl, rfl⟩)
  rcases way with h | ⟨p, j, rfl, rfl, rfl⟩
  · exact .inl (sp_add0 F α H S x y dx dy d Q s rx ry h q)
  · cases rx.bl; cases ry.int
    exact .inr ⟨p, j, rfl, rfl, Post.here q s (.int _)⟩
theorem sp_catL : SpL2 K Θ (rAdd K) gCatL := fun F α H S x y dx dy ds Q s rx ry e q => .inl (sp_catL0 F α H S x y dx dy ds Q s rx ry e q)

/-- ints -/
def gI (C : Int → Int → Prop) [∀ i j, Decidable (C i j)] (g : Int → Int → Int) : D → D → Option D
  | .int i, .int j => if C i j then some (.int (g i j)) else none
  | _, _ => none
theorem sp_I {C : Int → Int → Prop} [∀ i j, Decidable (C i j)] {g : Int → Int → Int} : Sp2 K Θ (rI C fun i j => .int (g i j)) (gI C g) := by
  intro F α H S x y dx dy d Q s rx ry e q
  unfold gI at e
  split at e
  · split at e
    · cases e; cases rx.int; cases ry.int
      exact ⟨_, _, rfl, rfl, by assumption, Post.here q s (.int _)⟩
    · cases e
  · cases e
def gI0 (g : Int → Int → Int) : D → D → Option D
  | .int i, .int j => some (.int (g i j))
  | _, _ => none
theorem sp_I0 {g : Int → Int → Int} : Sp2 K Θ (rI0 fun i j => .int (g i j)) (gI0 g) := by
  intro F α H S x y dx dy d Q s rx ry e q
  unfold gI0 at e
  split at e
  · cases e; cases rx.int; cases ry.int
    exact ⟨_, _, rfl, rfl, Post.here q s (.int _)⟩
  · cases e
instance : ∀ i j, Decidable (CDivW i j) := fun i j => by unfold CDivW; exact inferInstance
instance : ∀ i j, Decidable (CMulW i j) := fun i j => by unfold CMulW; exact inferInstance
instance : ∀ i j, Decidable (CPow i j) := fun i j => by unfold CPow; exact inferInstance
def CPos (_ j : Int) : Prop := 0 < j
instance : ∀ i j, Decidable (CPos i j) := fun i j => by unfold CPos; exact inferInstance
def gNeg : D → Option D
  | .int i => some (.int (-i))
  | _ => none
theorem sp_neg : Sp1 K Θ (rU fun i => .int (-i)) gNeg := by
  intro F α H S x dx d Q s rx e q
  unfold gNeg at e
  split at e
  · cases e; cases rx.int
    exact ⟨_, rfl, Post.here q s (.int _)⟩
  · cases e

/-! ### order: ints, texts, tuples of ints -/
abbrev rLtS : R2 := fun x y H Q => ∃ i j, x = .str i ∧ y = .str j ∧ Q (.bl (decide (i.cps.toList < j.cps.toList))) H
def ints? : List D → Option (List Int)
  | [] => some []
  | .int i :: r => (ints? r).map (i :: ·)
  | _ => none
theorem ints_of : ∀ {vs : List V} {ds : List D} {ns : List Int}, RpA K F α H vs ds → ints? ds = some ns → vs = ns.map V.int
  | _, _, _, .nil, e => by cases e; rfl
  | _, _, _, .cons (d := d) (ds := ds) h r, e => by
    cases d with
    | int i =>
      unfold ints? at e
      cases q : ints? ds with
      | none => rw [q] at e; cases e
      | some ns => rw [q] at e; cases e; cases h; rw [ints_of r q]; rfl
    | _ => unfold ints? at e; cases e
def gLt : D → D → Option D
  | .int i, .int j => some (.bl (decide (i < j)))
  | .str x, .str y => some (.bl (decide (x.cps.toList < y.cps.toList)))
  | .tup xs, .tup ys => match ints? xs, ints? ys with | some ns, some ms => some (.bl (HT.lexLt ns ms)) | _, _ => none
  | _, _ => none
abbrev rLt (K : PySem.W.Frag) : R2 := fun x y H Q => (rI0 (fun i j => .bl (decide (i < j))) x y H Q ∨ rLtS x y H Q) ∨ rLtT K x y H Q
theorem op_ltJ {X : Cx} (hu : X.A.units < cLine) : OpR X (compareOp .Lt) (rLt X.K) := opr_or (opr_or op_lt op_lt_str) (op_ltT hu)
theorem sp_lt : Sp2 K Θ (rLt K) gLt := by
  intro F α H S x y dx dy d Q s rx ry e q
  unfold gLt at e
  split at e
  · cases e; cases rx.int; cases ry.int
    exact .inl (.inl ⟨_, _, rfl, rfl, Post.here q s (.bl _)⟩)
  · cases e; cases rx.str; cases ry.str
    exact .inl (.inr ⟨_, _, rfl, rfl, Post.here q s (.bl _)⟩)
  · split at e
    · rename_i e1 e2
      cases e
      obtain ⟨a, vs, rfl, ha, r1⟩ := rx.tup'
      obtain ⟨b, us, rfl, hb, r2⟩ := ry.tup'
      rw [ints_of r1 e1] at ha
      rw [ints_of r2 e2] at hb
      exact .inr ⟨a, b, _, _, rfl, rfl, SqT.of ha, SqT.of hb, Post.here q s (.bl _)⟩
    · cases e
  · cases e
/-- <=, >, >= : ints and texts -/
def gOrd (gi : Int → Int → Bool) (gs : Str → Str → Bool) : D → D → Option D
  | .int i, .int j => some (.bl (gi i j))
  | .str x, .str y => some (.bl (gs x y))
  | _, _ => none
abbrev rOrd (gi : Int → Int → Bool) (gs : Str → Str → Bool) : R2 := fun x y H Q => rI0 (fun i j => .bl (gi i j)) x y H Q ∨ ∃ i j, x = .str i ∧ y = .str j ∧ Q (.bl (gs i j)) H
theorem sp_ord {gi : Int → Int → Bool} {gs : Str → Str → Bool} : Sp2 K Θ (rOrd gi gs) (gOrd gi gs) := by
  intro F α H S x y dx dy d Q s rx ry e q
  unfold gOrd at e
  split at e
  · cases e; cases rx.int; cases ry.int
    exact .inl ⟨_, _, rfl, rfl, Post.here q s (.bl _)⟩
  · cases e; cases rx.str; cases ry.str
    exact .inr ⟨_, _, rfl, rfl, Post.here q s (.bl _)⟩
  · cases e
abbrev gLe : D → D → Option D := gOrd (fun i j => decide (i ≤ j)) fun i j => !decide (j.cps.toList < i.cps.toList)
abbrev gGe : D → D → Option D := gOrd (fun i j => decide (j ≤ i)) fun i j => !decide (i.cps.toList < j.cps.toList)
abbrev gGt0 : D → D → Option D := gOrd (fun i j => decide (j < i)) fun i j => decide (j.cps.toList < i.cps.toList)
def gGt : D → D → Option D
  | .int i, .int j => some (.bl (decide (j < i)))
  | .str i, .str j => some (.bl (decide (j.cps.toList < i.cps.toList)))
  | .bl p, .int j => some (.bl (decide (j < if p = true then (1 : Int) else 0)))
  | _, _ => none
theorem op_leJ {X : Cx} : OpR X (compareOp .LtE) (rOrd (fun i j => decide (i ≤ j)) fun i j => !decide (j.cps.toList < i.cps.toList)) := opr_or op_le op_le_str
abbrev rGt : R2 := fun x y H Q => rOrd (fun i j => decide (j < i)) (fun i j => decide (j.cps.toList < i.cps.toList)) x y H Q ∨ rGtB x y H Q
theorem op_gtJ {X : Cx} : OpR X (compareOp .Gt) rGt := opr_or (opr_or op_gt op_gt_str) op_gtB
theorem sp_gt : Sp2 K Θ rGt gGt := by
  intro F α H S x y dx dy d Q s rx ry e q
  have way : gGt0 dx dy = some d ∨ ∃ p j, dx = .bl p ∧ dy = .int j ∧ d = .bl (decide (j < if p = true then (1 : Int) else 0)) := by
    cases dx <;> cases dy <;> first | exact .inl e | (cases e; exact .inr ⟨_, _, rfl, rfl, rfl⟩)
  rcases way with h | ⟨p, j, rfl, rfl, rfl⟩
  · exact .inl (sp_ord F α H S x y dx dy d Q s rx ry h q)
  · cases rx.bl; cases ry.int
    exact .inr ⟨p, j, rfl, rfl, Post.here q s (.bl _)⟩
theorem op_geJ {X : Cx} : OpR X (compareOp .GtE) (rOrd (fun i j => decide (j ≤ i)) fun i j => !decide (i.cps.toList < j.cps.toList)) := opr_or op_ge op_ge_str

/-! ### == and != , in and not in -/
mutual
/-- data without objects and frozen lists -/
def toPy : D → Option PyData
  | .non => some .none
  | .bl b => some (.bool b)
  | .int i => some (.int i)
  | .str x => some (.str x)
  | .lst xs => match toPys xs with | some ys => some (.list ys) | none => none
  | .tup xs => match toPys xs with | some ys => some (.tuple ys) | none => none
  | .frz _ => none
  | .obj _ => none
def toPys : List D → Option (List PyData)
  | [] => some []
  | x :: xs => match toPy x, toPys xs with | some y, some ys => some (y :: ys) | _, _ => none
end
mutual
theorem Rp.dp : ∀ {v : V} {d : D} {e : PyData}, Rp K F α H v d → toPy d = some e → Dp K H v e
  | _, _, _, .non, e => by unfold toPy at e; cases e; exact .non
  | _, _, _, .bl b, e => by unfold toPy at e; cases e; exact .bl b
  | _, _, _, .int b, e => by unfold toPy at e; cases e; exact .int b
  | _, _, _, .str b, e => by unfold toPy at e; cases e; exact .str b
  | _, _, _, .lst f h r, e => by
    unfold toPy at e
    split at e
    · rename_i q; cases e; exact .lst (SqL.of h) (RpA.dp r q)
    · cases e
  | _, _, _, .tup h r, e => by
    unfold toPy at e
    split at e
    · rename_i q; cases e; exact .tup (SqT.of h) (RpA.dp r q)
    · cases e
  | _, _, _, .frz h r, e => by unfold toPy at e; cases e
  | _, _, _, .obj h, e => by unfold toPy at e; cases e
theorem RpA.dp : ∀ {vs : List V} {ds : List D} {es : List PyData}, RpA K F α H vs ds → toPys ds = some es → DpAll K H vs es
  | _, _, _, .nil, e => by unfold toPys at e; cases e; exact .nil
  | _, _, _, .cons h r, e => by
    unfold toPys at e
    split at e
    · rename_i q1 q2; cases e; exact .cons (Rp.dp h q1) (RpA.dp r q2)
    · cases e
end
theorem Rw.dp {e : PyData} (r : Rw K F α H v d) (q : toPy d = some e) : Dp K H v e := by
  cases r with
  | st r => exact r.dp q
  | lst h r =>
    unfold toPy at q
    split at q
    · rename_i q'; cases q; exact .lst (SqL.of h) (RpA.dp r q')
    · cases q
def gEq (neg : Bool) (x y : D) : Option D := match toPy x, toPy y with
  | some a, some b => if SeqAt.shaped a = true ∧ SeqAt.shaped b = true then some (.bl (if neg then !PyData.eqv a b else PyData.eqv a b)) else none
  | _, _ => none
theorem sp_eq : Sp2 K Θ (rEqD K) (gEq false) := by
  intro F α H S x y dx dy d Q s rx ry e q
  unfold gEq at e
  split at e
  · split at e
    · rename_i h1 h2 hs
      cases e
      exact ⟨_, _, rx.dp h1, ry.dp h2, hs.1, hs.2, Post.here q s (.bl _)⟩
    · cases e
  · cases e
theorem sp_ne : Sp2 K Θ (rNeD K) (gEq true) := by
  intro F α H S x y dx dy d Q s rx ry e q
  unfold gEq at e
  split at e
  · split at e
    · rename_i h1 h2 hs
      cases e
      exact ⟨_, _, rx.dp h1, ry.dp h2, hs.1, hs.2, Post.here q s (.bl _)⟩
    · cases e
  · cases e
/-- x in a list, a tuple of data; in a text -/
def rInA (K : PySem.W.Frag) (neg : Bool) : R2 := fun x y H Q => (∃ (d : PyData) (ds : List PyData), Dp K H x d ∧ (Dp K H y (.list ds) ∨ Dp K H y (.tuple ds)) ∧ SeqAt.shaped d = true ∧ SeqAt.shaped (.list ds) = true ∧ Q (.bl (if neg then !ds.any fun z => PyData.eqv z d else ds.any fun z => PyData.eqv z d)) H) ∨
  ∃ i j, x = .str i ∧ y = .str j ∧ Q (.bl (if neg then !(!(Builtin.Str.occurrences j i 0 j.length 1).isEmpty) else !(Builtin.Str.occurrences j i 0 j.length 1).isEmpty)) H
theorem op_inJ {X : Cx} (hu : X.A.units + 65 < cLine) : OpR X (compareOp .In) (rInA X.K false) := by
  intro pins s σ H x y v u Q I rx ry h
  rcases h with ⟨d, ds, hd, he, sd, se, q⟩ | h
  · obtain ⟨as, r1⟩ := Dp.reads I d x v hd rx
    rcases he with he | he
    · obtain ⟨bs, r2⟩ := Dp.reads I (.list ds) y u he ry
      exact SeqAt.in_list_reads r2 r1 (SeqAt.canLay_of_shaped se) (SeqAt.canLay_of_shaped sd) (room_in_shaped sd hu) ⟨.bl _, H, I, rfl, q⟩
    · obtain ⟨bs, r2⟩ := Dp.reads I (.tuple ds) y u he ry
      exact SeqAt.in_tuple_reads r2 r1 (SeqAt.canLay_of_shaped se) (SeqAt.canLay_of_shaped sd) (room_in_shaped sd hu) ⟨.bl _, H, I, rfl, q⟩
  · exact op_in_str pins s σ H x y v u Q I rx ry h
theorem op_notInJ {X : Cx} (hu : X.A.units + 65 < cLine) : OpR X (compareOp .NotIn) (rInA X.K true) := by
  intro pins s σ H x y v u Q I rx ry h
  rcases h with ⟨d, ds, hd, he, sd, se, q⟩ | h
  · obtain ⟨as, r1⟩ := Dp.reads I d x v hd rx
    rcases he with he | he
    · obtain ⟨bs, r2⟩ := Dp.reads I (.list ds) y u he ry
      exact SeqAt.notIn_list_reads r2 r1 (SeqAt.canLay_of_shaped se) (SeqAt.canLay_of_shaped sd) (room_in_shaped sd hu) ⟨.bl _, H, I, rfl, q⟩
    · obtain ⟨bs, r2⟩ := Dp.reads I (.tuple ds) y u he ry
      exact SeqAt.notIn_tuple_reads r2 r1 (SeqAt.canLay_of_shaped se) (SeqAt.canLay_of_shaped sd) (room_in_shaped sd hu) ⟨.bl _, H, I, rfl, q⟩
  · exact op_notIn_str pins s σ H x y v u Q I rx ry h
def gInD (neg : Bool) (x : PyData) (ys : List PyData) : Option D := if SeqAt.shaped x = true ∧ SeqAt.shaped (.list ys) = true then some (.bl (if neg then !ys.any fun z => PyData.eqv z x else ys.any fun z => PyData.eqv z x)) else none
def gIn (neg : Bool) (x y : D) : Option D := match x, y with
  | .str i, .str j => some (.bl (if neg then !(!(Builtin.Str.occurrences j i 0 j.length 1).isEmpty) else !(Builtin.Str.occurrences j i 0 j.length 1).isEmpty))
  | x, .lst ys => match toPy x, toPys ys with | some a, some bs => gInD neg a bs | _, _ => none
  | x, .tup ys => match toPy x, toPys ys with | some a, some bs => gInD neg a bs | _, _ => none
  | _, _ => none
theorem sp_in {neg : Bool} : Sp2 K Θ (rInA K neg) (gIn neg) := by
  intro F α H S x y dx dy d Q s rx ry e q
  unfold gIn at e
  split at e
  · cases e; cases rx.str; cases ry.str
    exact .inr ⟨_, _, rfl, rfl, Post.here q s (.bl _)⟩
  · split at e
    · rename_i h1 h2
      unfold gInD at e
      split at e
      · rename_i hs
        cases e
        refine .inl ⟨_, _, rx.dp h1, .inl (ry.dp (by unfold toPy; rw [h2])), hs.1, hs.2, Post.here q s (.bl _)⟩
      · cases e
    · cases e
  · split at e
    · rename_i h1 h2
      unfold gInD at e
      split at e
      · rename_i hs
        cases e
        refine .inl ⟨_, _, rx.dp h1, .inr (ry.dp (by unfold toPy; rw [h2])), hs.1, hs.2, Post.here q s (.bl _)⟩
      · cases e
    · cases e
  · cases e
/-- is None, is not None -/
def gIs (neg : Bool) (x y : D) : Option D := match y, x with
  | .non, .non => some (.bl (!neg))
  | .non, _ => some (.bl neg)
  | _, _ => none
theorem Rw.notNon (r : Rw K F α H v d) (h : d ≠ .non) : v ≠ .non := fun e => by
  subst e
  cases r with
  | st r => cases r; exact h rfl
theorem sp_is : Sp2 K Θ (fun x y H Q => y = .non ∧ Q (.bl (decide (x = .non))) H) (gIs false) := by
  intro F α H S x y dx dy d Q s rx ry e q
  unfold gIs at e
  split at e
  · cases e; cases rx.non; cases ry.non
    exact ⟨rfl, Post.here q s (.bl _)⟩
  · rename_i h
    cases e; cases ry.non
    refine ⟨rfl, ?_⟩
    rw [decide_eq_false (rx.notNon h)]
    exact Post.here q s (.bl _)
  · cases e
theorem sp_isnt : Sp2 K Θ (fun x y H Q => y = .non ∧ Q (.bl (!decide (x = .non))) H) (gIs true) := by
  intro F α H S x y dx dy d Q s rx ry e q
  unfold gIs at e
  split at e
  · cases e; cases rx.non; cases ry.non
    exact ⟨rfl, Post.here q s (.bl _)⟩
  · rename_i h
    cases e; cases ry.non
    refine ⟨rfl, ?_⟩
    rw [decide_eq_false (rx.notNon h)]
    exact Post.here q s (.bl _)
  · cases e
end
end J

set_option maxHeartbeats 4000000
namespace J
open PySem PySem.Spec PyProof.Rows L2

section
variable {K : PySem.W.Frag} {F F' F2 : Addr → Prop} {α α' α2 : List Addr} {H H' H2 : Hp} {S S' : Store} {v : V} {d : D}
/-! ### lists and tuples as they are read -/
theorem Rw.seqL {xs : List D} (r : Rw K F α H v (.lst xs)) : ∃ a vs, v = .ref a ∧ SqL K H a vs ∧ RpA K F α H vs xs := by
  obtain ⟨a, vs, e, h, q⟩ := r.lst'
  exact ⟨a, vs, e, SqL.of h, q⟩
theorem Rw.seqF {xs : List D} (r : Rw K F α H v (.frz xs)) : ∃ a vs, v = .ref a ∧ SqL K H a vs ∧ RpA K F α H vs xs := by
  obtain ⟨a, vs, e, h, q⟩ := r.frz'
  exact ⟨a, vs, e, h.seq, q⟩
theorem Rw.seqT {xs : List D} (r : Rw K F α H v (.tup xs)) : ∃ a vs, v = .ref a ∧ SqT K H a vs ∧ RpA K F α H vs xs := by
  obtain ⟨a, vs, e, h, q⟩ := r.tup'
  exact ⟨a, vs, e, SqT.of h, q⟩

/-! ### o[i] -/
def gIx : D → D → Option D
  | .lst xs, .int i => atI xs i
  | .frz xs, .int i => atI xs i
  | .tup xs, .int i => atI xs i
  | .str z, .int i => if z.length ≤ sizeLine then (atI z.cps.toList i).map fun c => .str ⟨#[c]⟩ else none
  | _, _ => none
theorem atI_rp {vs : List V} {ds : List D} {i : Int} {d : D} (r : RpA K F α H vs ds) (e : atI ds i = some d) : ∃ v, atI vs i = some v ∧ Rp K F α H v d := by
  unfold atI at e ⊢
  rw [← r.length] at e
  cases q : ixN vs.length i with
  | none => rw [q] at e; cases e
  | some j =>
    rw [q] at e
    obtain ⟨v, h1, h2⟩ := r.getD (show ds[j]? = some d from e)
    exact ⟨v, h1, h2⟩
theorem sp_ix : Sp2 K Θ (rIx K) gIx := by
  intro F α H S x y dx dy d Q s rx ry e q
  unfold gIx at e
  split at e
  · cases ry.int
    obtain ⟨a, vs, rfl, ha, r1⟩ := rx.seqL
    obtain ⟨v, e1, r⟩ := atI_rp r1 e
    exact .inl ⟨a, vs, _, v, rfl, rfl, ha, e1, Post.here q s r⟩
  · cases ry.int
    obtain ⟨a, vs, rfl, ha, r1⟩ := rx.seqF
    obtain ⟨v, e1, r⟩ := atI_rp r1 e
    exact .inl ⟨a, vs, _, v, rfl, rfl, ha, e1, Post.here q s r⟩
  · cases ry.int
    obtain ⟨a, vs, rfl, ha, r1⟩ := rx.seqT
    obtain ⟨v, e1, r⟩ := atI_rp r1 e
    exact .inr (.inl ⟨a, vs, _, v, rfl, rfl, ha, e1, Post.here q s r⟩)
  · split at e
    · rename_i hz
      cases ry.int
      cases rx.str
      rename_i z i
      cases e1 : atI z.cps.toList i with
      | none => rw [e1] at e; cases e
      | some c =>
        rw [e1] at e
        cases e
        exact .inr (.inr ⟨z, i, c, rfl, rfl, hz, e1, Post.here q s (.str _)⟩)
    · cases e
  · cases e

/-! ### len, list, tuple, int, str, all, any, sorted -/
def gLen : List D → Option D
  | [.lst xs] => some (.int xs.length)
  | [.frz xs] => some (.int xs.length)
  | [.tup xs] => some (.int xs.length)
  | [.str z] => if z.length ≤ sizeLine then some (.int z.length) else none
  | _ => none
abbrev rLenJ (K : PySem.W.Frag) : List V → Hp → VK → Prop := fun xs H Q => (∃ p ys, xs = [.ref p] ∧ (SqL K H p ys ∨ SqT K H p ys) ∧ Q (.int ys.length) H) ∨ ∃ z, xs = [.str z] ∧ z.length ≤ sizeLine ∧ Q (.int z.length) H
theorem call_lenJ {X : Cx} : CallR X (.builtin "len") (rLenJ X.K) := callr_or call_len_seq call_len_str
theorem RwA.one {xs : List V} {d : D} (r : RwA K F α H xs [d]) : ∃ v, xs = [v] ∧ Rw K F α H v d := by
  cases r with
  | cons h r => cases r; exact ⟨_, rfl, h⟩
theorem sp_len : SpC K Θ (rLenJ K) gLen := by
  intro F α H S xs dxs d Q s rx e q
  unfold gLen at e
  split at e
  · cases e
    obtain ⟨v, rfl, r⟩ := rx.one
    obtain ⟨a, vs, rfl, ha, r1⟩ := r.seqL
    refine .inl ⟨a, vs, rfl, .inl ha, ?_⟩
    rw [r1.length]
    exact Post.here q s (.int _)
  · cases e
    obtain ⟨v, rfl, r⟩ := rx.one
    obtain ⟨a, vs, rfl, ha, r1⟩ := r.seqF
    refine .inl ⟨a, vs, rfl, .inl ha, ?_⟩
    rw [r1.length]
    exact Post.here q s (.int _)
  · cases e
    obtain ⟨v, rfl, r⟩ := rx.one
    obtain ⟨a, vs, rfl, ha, r1⟩ := r.seqT
    refine .inl ⟨a, vs, rfl, .inr ha, ?_⟩
    rw [r1.length]
    exact Post.here q s (.int _)
  · split at e
    · cases e
      obtain ⟨v, rfl, r⟩ := rx.one
      cases r.str
      exact .inr ⟨_, rfl, by assumption, Post.here q s (.int _)⟩
    · cases e
  · cases e
/-- list(x): a new list -/
def gListL : List D → Option (List D)
  | [.lst xs] => some xs
  | [.frz xs] => some xs
  | [.tup xs] => some xs
  | _ => none
abbrev rListJ (K : PySem.W.Frag) : List V → Hp → VK → Prop := fun xs H Q => ∃ p ys, xs = [.ref p] ∧ (SqL K H p ys ∨ SqT K H p ys) ∧ ∀ l, H l = none → Q (.ref l) (upd H l (.lst ys))
theorem sp_listL : SpCL K Θ (rListJ K) gListL := by
  intro F α H S xs dxs d Q s rx e q
  unfold gListL at e
  split at e
  · cases e
    obtain ⟨v, rfl, r⟩ := rx.one
    obtain ⟨a, vs, rfl, ha, r1⟩ := r.seqL
    exact ⟨a, vs, rfl, .inl ha, PostL.lst q s r1⟩
  · cases e
    obtain ⟨v, rfl, r⟩ := rx.one
    obtain ⟨a, vs, rfl, ha, r1⟩ := r.seqF
    exact ⟨a, vs, rfl, .inl ha, PostL.lst q s r1⟩
  · cases e
    obtain ⟨v, rfl, r⟩ := rx.one
    obtain ⟨a, vs, rfl, ha, r1⟩ := r.seqT
    exact ⟨a, vs, rfl, .inr ha, PostL.lst q s r1⟩
  · cases e
def gTuple : List D → Option D
  | [.lst xs] => some (.tup xs)
  | [.frz xs] => some (.tup xs)
  | [.tup xs] => some (.tup xs)
  | _ => none
abbrev rTupleJ (K : PySem.W.Frag) : List V → Hp → VK → Prop := fun xs H Q => ∃ p ys, xs = [.ref p] ∧ ((SqL K H p ys ∧ ∀ l, H l = none → Q (.ref l) (upd H l (.tup ys))) ∨ (SqT K H p ys ∧ Q (.ref p) H))
theorem sp_tuple : SpC K Θ (rTupleJ K) gTuple := by
  intro F α H S xs dxs d Q s rx e q
  unfold gTuple at e
  split at e
  · cases e
    obtain ⟨v, rfl, r⟩ := rx.one
    obtain ⟨a, vs, rfl, ha, r1⟩ := r.seqL
    exact ⟨a, vs, rfl, .inl ⟨ha, Post.tup q s r1⟩⟩
  · cases e
    obtain ⟨v, rfl, r⟩ := rx.one
    obtain ⟨a, vs, rfl, ha, r1⟩ := r.seqF
    exact ⟨a, vs, rfl, .inl ⟨ha, Post.tup q s r1⟩⟩
  · cases e
    obtain ⟨v, rfl, r⟩ := rx.one
    obtain ⟨a, vs, rfl, ha, r1⟩ := r.tup'
    exact ⟨a, vs, rfl, .inr ⟨SqT.of ha, Post.here q s (.tup ha r1)⟩⟩
  · cases e
def gInt : List D → Option D
  | [.int i] => some (.int i)
  | [.bl k] => some (.int (if k then 1 else 0))
  | _ => none
abbrev rIntJ : List V → Hp → VK → Prop := fun xs H Q => (∃ i, xs = [.int i] ∧ Q (.int i) H) ∨ ∃ k, xs = [.bl k] ∧ Q (.int (if k then 1 else 0)) H
theorem sp_int : SpC K Θ rIntJ gInt := by
  intro F α H S xs dxs d Q s rx e q
  unfold gInt at e
  split at e
  · cases e
    obtain ⟨v, rfl, r⟩ := rx.one
    cases r.int
    exact .inl ⟨_, rfl, Post.here q s (.int _)⟩
  · cases e
    obtain ⟨v, rfl, r⟩ := rx.one
    cases r.bl
    exact .inr ⟨_, rfl, Post.here q s (.int _)⟩
  · cases e
def gStr : List D → Option D
  | [.int i] => if i.natAbs.log2 < 1920 then some (.str (toString i)) else none
  | _ => none
abbrev rStrJ : List V → Hp → VK → Prop := fun xs H Q => ∃ i : Int, xs = [.int i] ∧ i.natAbs.log2 < 1920 ∧ Q (.str (toString i)) H
theorem sp_str : SpC K Θ rStrJ gStr := by
  intro F α H S xs dxs d Q s rx e q
  unfold gStr at e
  split at e
  · split at e
    · cases e
      obtain ⟨v, rfl, r⟩ := rx.one
      cases r.int
      exact ⟨_, rfl, by assumption, Post.here q s (.str _)⟩
    · cases e
  · cases e
def bls? : List D → Option (List Bool)
  | [] => some []
  | .bl b :: r => (bls? r).map (b :: ·)
  | _ => none
theorem bls_of : ∀ {vs : List V} {ds : List D} {ns : List Bool}, RpA K F α H vs ds → bls? ds = some ns → vs = ns.map V.bl
  | _, _, _, .nil, e => by cases e; rfl
  | _, _, _, .cons (d := d) (ds := ds) h r, e => by
    cases d with
    | bl i =>
      unfold bls? at e
      cases q : bls? ds with
      | none => rw [q] at e; cases e
      | some ns => rw [q] at e; cases e; cases h; rw [bls_of r q]; rfl
    | _ => unfold bls? at e; cases e
def gAll : List D → Option D
  | [.lst xs] => (bls? xs).map fun bs => .bl (bs.all id)
  | _ => none
def gAny : List D → Option D
  | [.lst xs] => (bls? xs).map fun bs => .bl (bs.any id)
  | _ => none
theorem sp_all : SpC K Θ (rAll K) gAll := by
  intro F α H S xs dxs d Q s rx e q
  unfold gAll at e
  split at e
  · rename_i ys
    cases e1 : bls? ys with
    | none => rw [e1] at e; cases e
    | some bs =>
      rw [e1] at e; cases e
      obtain ⟨v, rfl, r⟩ := rx.one
      obtain ⟨a, vs, rfl, ha, r1⟩ := r.seqL
      rw [bls_of r1 e1] at ha
      exact ⟨a, bs, rfl, ha, Post.here q s (.bl _)⟩
  · cases e
theorem sp_any : SpC K Θ (rAny K) gAny := by
  intro F α H S xs dxs d Q s rx e q
  unfold gAny at e
  split at e
  · rename_i ys
    cases e1 : bls? ys with
    | none => rw [e1] at e; cases e
    | some bs =>
      rw [e1] at e; cases e
      obtain ⟨v, rfl, r⟩ := rx.one
      obtain ⟨a, vs, rfl, ha, r1⟩ := r.seqL
      rw [bls_of r1 e1] at ha
      exact ⟨a, bs, rfl, ha, Post.here q s (.bl _)⟩
  · cases e
def strs? : List D → Option (List Str)
  | [] => some []
  | .str b :: r => (strs? r).map (b :: ·)
  | _ => none
theorem strs_of : ∀ {vs : List V} {ds : List D} {ns : List Str}, RpA K F α H vs ds → strs? ds = some ns → vs = ns.map V.str
  | _, _, _, .nil, e => by cases e; rfl
  | _, _, _, .cons (d := d) (ds := ds) h r, e => by
    cases d with
    | str i =>
      unfold strs? at e
      cases q : strs? ds with
      | none => rw [q] at e; cases e
      | some ns => rw [q] at e; cases e; cases h; rw [strs_of r q]; rfl
    | _ => unfold strs? at e; cases e
theorem RpA.strs : ∀ (ys : List Str), RpA K F α H (ys.map V.str) (ys.map D.str)
  | [] => .nil
  | y :: ys => .cons (.str y) (RpA.strs ys)
theorem RpA.ints : ∀ (ys : List Int), RpA K F α H (ys.map V.int) (ys.map D.int)
  | [] => .nil
  | y :: ys => .cons (.int y) (RpA.ints ys)

/-! ### the forms -/
variable {X : Cx} {a b c e : Expr} {es : List Expr} {f g h : EX} {r : EL} {pos p : Pos} {x : Str}
theorem aGL_some {ρ : Env} {ds : List D} {g : List D → Option (List D)} (q : (match r ρ S with | some (xs, S1) => (match g xs with | some z => some (z, S1) | none => none) | none => none) = some (ds, S')) : ∃ xs, r ρ S = some (xs, S') ∧ g xs = some ds := by
  split at q
  · split at q
    · cases q; exact ⟨_, by assumption, by assumption⟩
    · cases q
  · cases q
def aGL (g : List D → Option (List D)) (r : EL) : EL := fun ρ S => match r ρ S with | some (xs, S1) => (match g xs with | some z => some (z, S1) | none => none) | none => none
theorem j_cbL {e : Expr} {q : List V → Hp → VK → Prop} {g : List D → Option (List D)} (sp : SpCL X.K Θ q g) (raw : PE X e (tCB q (tWs X.K Θ r))) : PE X e (tL X.K Θ (aGL g r)) := pe_weak raw fun σ H Q ⟨F, α, ρ, S, d, S', h1, h2, h3, k⟩ => by
  obtain ⟨xs, a1, a3⟩ := aGL_some h3
  exact ⟨F, α, ρ, S, xs, _, h1, h2, a1, fun v F1 α1 H1 st1 hs1 rv => sp F1 α1 H1 _ v xs d Q hs1 rv a3 fun a vs F3 α3 H3 st3 hs3 hn nf hl rv3 => k a vs F3 α3 H3 (st1.trans st3) hs3 (st1.back hn) nf hl rv3⟩

/-- a tuple, a list of written items -/
def eTup (r : EL) : EX := fun ρ S => match r ρ S with | some (xs, S1) => if xs.length ≤ sizeLine then some (.tup xs, S1) else none | none => none
def lDisp (r : EL) : EL := fun ρ S => match r ρ S with | some (xs, S1) => if xs.length ≤ sizeLine then some (xs, S1) else none | none => none
theorem j_tup {k : Nat} (q : PA X es (tVs X.K Θ r)) : PE X (.Tuple es k pos) (tV X.K Θ (eTup r)) := pe_weak (pe_tup q) fun σ H Q ⟨F, α, ρ, S, d, S', h1, h2, h3, k⟩ => by
  unfold eTup at h3
  split at h3
  · split at h3
    · rename_i xs S1 e hz
      cases h3
      exact ⟨F, α, ρ, S, xs, _, h1, h2, e, fun vs F1 α1 H1 st1 hs1 rv => ⟨by rw [rv.length]; exact hz, Post.tup (fun v F' α' H' st hs r => k v F' α' H' (st1.trans st) hs r) hs1 rv⟩⟩
    · cases h3
  · cases h3
theorem j_disp (q : PA X es (tVs X.K Θ r)) : PE X (.List es pos) (tL X.K Θ (lDisp r)) := pe_weak (pe_lst q) fun σ H Q ⟨F, α, ρ, S, d, S', h1, h2, h3, k⟩ => by
  unfold lDisp at h3
  split at h3
  · split at h3
    · rename_i xs S1 e hz
      cases h3
      exact ⟨F, α, ρ, S, _, _, h1, h2, e, fun vs F1 α1 H1 st1 hs1 rv => ⟨by rw [rv.length]; exact hz, PostL.lst (fun a vs F' α' H' st hs hn nf hl r => k a vs F' α' H' (st1.trans st) hs (st1.back hn) nf hl r) hs1 rv⟩⟩
    · cases h3
  · cases h3

/-! ### isinstance -/
def tyN : D → String
  | .non => "NoneType" | .bl _ => "bool" | .int _ => "int" | .str _ => "str" | .lst _ => "list" | .frz _ => "list" | .tup _ => "tuple" | .obj _ => "dict"
theorem ty_of (s : StR K Θ F α H S) : ∀ {v : V} {d : D}, Rw K F α H v d → TyX K H v (.type (tyN d))
  | _, _, .lst h _ => .base (.lst h)
  | _, _, .st .non => .base .non
  | _, _, .st (.bl b) => .base (.bl b)
  | _, _, .st (.int b) => .base (.int b)
  | _, _, .st (.str b) => .base (.str b)
  | _, _, .st (.lst _ h _) => .base (.lst h)
  | _, _, .st (.tup h _) => .base (.tup h)
  | _, _, .st (.frz h _) => h.elim (fun ⟨_, e⟩ => .base (.frz e)) fun h => h.elim (fun ⟨_, e⟩ => .base (.lst e)) fun ⟨_, _, _, e, c, _⟩ => .kList e c
  | _, _, .st (.obj h) => by
    obtain ⟨kvs, e⟩ := s.at (List.mem_of_getElem? h)
    exact .base (.dK e)
/-- the kinds that are asked for: bools are ints -/
inductive Ty where | int | str | bool | tuple | list | dict
def Ty.n : Ty → String
  | .int => "int" | .str => "str" | .bool => "bool" | .tuple => "tuple" | .list => "list" | .dict => "dict"
def isT : Ty → D → Bool
  | .int, .int _ => true | .int, .bl _ => true
  | .str, .str _ => true
  | .bool, .bl _ => true
  | .tuple, .tup _ => true
  | .list, .lst _ => true | .list, .frz _ => true
  | .dict, .obj _ => true
  | _, _ => false
def kitRow (T : String) : List (Option Bool) := ["NoneType", "bool", "int", "str", "list", "tuple", "dict"].map fun a => kitB a T
theorem kit_int : kitRow "int" = [some false, some true, some true, some false, some false, some false, some false] := by decide +kernel
theorem kit_str : kitRow "str" = [some false, some false, some false, some true, some false, some false, some false] := by decide +kernel
theorem kit_bool : kitRow "bool" = [some false, some true, some false, some false, some false, some false, some false] := by decide +kernel
theorem kit_tuple : kitRow "tuple" = [some false, some false, some false, some false, some false, some true, some false] := by decide +kernel
theorem kit_list : kitRow "list" = [some false, some false, some false, some false, some true, some false, some false] := by decide +kernel
theorem kit_dict : kitRow "dict" = [some false, some false, some false, some false, some false, some false, some true] := by decide +kernel
theorem row7 {α : Type} {a b c d e f g a' b' c' d' e' f' g' : α} (h : [a, b, c, d, e, f, g] = [a', b', c', d', e', f', g']) : a = a' ∧ b = b' ∧ c = c' ∧ d = d' ∧ e = e' ∧ f = f' ∧ g = g' := by simpa using h
theorem kit_isT (T : Ty) (d : D) : kitB (tyN d) T.n = some (isT T d) := by
  cases T with
  | int => obtain ⟨h1, h2, h3, h4, h5, h6, h7⟩ := row7 kit_int; cases d <;> assumption
  | str => obtain ⟨h1, h2, h3, h4, h5, h6, h7⟩ := row7 kit_str; cases d <;> assumption
  | bool => obtain ⟨h1, h2, h3, h4, h5, h6, h7⟩ := row7 kit_bool; cases d <;> assumption
  | tuple => obtain ⟨h1, h2, h3, h4, h5, h6, h7⟩ := row7 kit_tuple; cases d <;> assumption
  | list => obtain ⟨h1, h2, h3, h4, h5, h6, h7⟩ := row7 kit_list; cases d <;> assumption
  | dict => obtain ⟨h1, h2, h3, h4, h5, h6, h7⟩ := row7 kit_dict; cases d <;> assumption
def gIsi (T : Ty) : D → Option D := fun d => some (.bl (isT T d))
theorem j_isi {T : Ty} (raw : PE X e (tCB (rIsi X.K) (tCons (tW X.K Θ f) (tCons (tC (.ty T.n)) tNil)))) : PE X e (tV X.K Θ (e1 (gIsi T) f)) := pe_weak raw fun σ H Q ⟨F, α, ρ, S, d, S', h1, h2, h3, k⟩ => by
  obtain ⟨x, a1, a3⟩ := e1_some h3
  cases a3
  exact ⟨F, α, ρ, S, x, _, h1, h2, a1, fun v F1 α1 H1 st1 hs1 rv => ⟨v, .ty T.n, .type (tyN x), .type T.n, isT T x, rfl, .ty T.n, ty_of hs1 rv, kit_ty (kit_isT T x), k _ F1 α1 H1 st1 hs1 (.bl _)⟩⟩
def gIsi2 (T U : Ty) : D → Option D := fun d => some (.bl (isT T d || isT U d))
/-- isinstance(x, (T1, T2)) -/
theorem j_isi2 {T U : Ty} (raw : PE X e (tCB (rIsiT X.K) (tCons (tW X.K Θ f) (tCons (tTup (tCons (tC (.ty T.n)) (tCons (tC (.ty U.n)) tNil))) tNil)))) :
    PE X e (tV X.K Θ (e1 (gIsi2 T U) f)) := pe_weak raw fun σ H Q ⟨F, α, ρ, S, d, S', h1, h2, h3, k⟩ => by
  obtain ⟨x, a1, a3⟩ := e1_some h3
  cases a3
  refine ⟨F, α, ρ, S, x, _, h1, h2, a1, fun v F1 α1 H1 st1 hs1 rv => ⟨(by show 2 ≤ sizeLine; decide), fun p hp => ?_⟩⟩
  have st2 := Step.new (o := .tup [.ty T.n, .ty U.n]) hs1 hp
  refine ⟨v, p, [.ty T.n, .ty U.n], .type (tyN x), [.type T.n, .type U.n], _, rfl, upd_same, .cons (.ty T.n) (.cons (.ty U.n) .nil), ty_of (hs1.new hp) (rv.mono hs1 st2), ?_, k _ F1 α1 _ (st1.trans st2) (hs1.new hp) (.bl _)⟩
  refine kitAny_cons (kit_ty (kit_isT T x)) (fun e => ?_) (fun e => by rw [e]; rfl)
  refine kitAny_cons (kit_ty (kit_isT U x)) (fun e2 => by rw [kitAny_nil, e, e2]; rfl) (fun e2 => by rw [e2, Bool.or_true])
end
end J

set_option maxHeartbeats 4000000
namespace J
open PySem PySem.Spec PyProof.Rows L2

section
variable {K : PySem.W.Frag} {F F' F2 : Addr → Prop} {α α' α2 : List Addr} {H H' H2 : Hp} {S S' : Store} {v : V} {d : D} {ρ : Env} {ds : List D}
variable {X : Cx} {a b c e : Expr} {es : List Expr} {f g h : EX} {r : EL} {pos p : Pos} {x : Str}
/-! ### slices -/
abbrev EO := Env → Store → Option (Option Int × Store)
def oN : EO := fun _ S => some (none, S)
def oS (f : EX) : EO := fun ρ S => match f ρ S with | some (.int i, S1) => some (some i, S1) | _ => none
def tOJ (K : PySem.W.Frag) (Θ : TL) (f : EO) : TO := fun σ H Q => ∃ F α ρ S o S', StR K Θ F α H S ∧ EnR K F α H σ ρ ∧ f ρ S = some (o, S') ∧
  ∀ F' α' H', Step F α H F' α' H' → StR K Θ F' α' H' S' → Q o H'
theorem po_weak {e : Option Expr} {t t' : TO} (h : PO X e t) (w : ∀ σ H Q, t' σ H Q → t σ H Q) : PO X e t' := ⟨fun pins s σ H Q I q => h.run pins s σ H Q I (w σ H Q q)⟩
theorem j_oN : PO X none (tOJ X.K Θ oN) := po_weak po_none fun σ H Q ⟨F, α, ρ, S, d, S', h1, h2, h3, k⟩ => by
  cases h3
  exact k F α H (Step.refl h1) h1
theorem j_oS (q : PE X a (tV X.K Θ f)) : PO X (some a) (tOJ X.K Θ (oS f)) := po_weak (po_some q) fun σ H Q ⟨F, α, ρ, S, d, S', h1, h2, h3, k⟩ => by
  unfold oS at h3
  split at h3
  · rename_i i S1 e
    cases h3
    exact ⟨F, α, ρ, S, _, _, h1, h2, e, fun v F1 α1 H1 st1 hs1 rv => by cases rv; exact ⟨i, rfl, k F1 α1 H1 st1 hs1⟩⟩
  · cases h3
def cutD (ds : List D) (lo hi : Option Int) : List D := (ds.drop (HT.sIx ds.length 0 lo)).take (HT.sIx ds.length ds.length hi - HT.sIx ds.length 0 lo)
theorem RpA.cut {vs : List V} (r : RpA K F α H vs ds) (lo hi : Option Int) : RpA K F α H (cutV vs lo hi) (cutD ds lo hi) := by
  unfold cutV cutD
  rw [r.length]
  exact (r.drop _).take _
theorem cut_whole {lo hi : Option Int} (h : HT.sIx ds.length 0 lo = 0 ∧ HT.sIx ds.length ds.length hi = ds.length) : cutD ds lo hi = ds := by
  unfold cutD
  rw [h.1, h.2]
  simp
def gSl : D → Option Int → Option Int → Option D
  | .lst xs, l, u => some (.lst (cutD xs l u))
  | .frz xs, l, u => some (.lst (cutD xs l u))
  | .tup xs, l, u => some (.tup (cutD xs l u))
  | .str z, l, u => if z.length ≤ sizeLine then some (.str (cutS z l u)) else none
  | _, _, _ => none
abbrev rSlJ (K : PySem.W.Frag) : V → Option Int → Option Int → Hp → VK → Prop := fun x lo hi H Q => (rSlL K x lo hi H Q ∨ rSlA K x lo hi H Q) ∨ rSlS x lo hi H Q
theorem sl_J : SlR X (rSlJ X.K) := (sl_list.or sl_tupA).or sl_str
def eSl (f : EX) (l u : EO) : EX := fun ρ S => match f ρ S with | some (x, S1) => (match l ρ S1 with | some (i, S2) => (match u ρ S2 with | some (j, S3) => (match gSl x i j with | some z => some (z, S3) | none => none) | none => none) | none => none) | none => none
def lSl (f : EX) (l u : EO) : EL := fun ρ S => match f ρ S with
  | some (.lst x, S1) => (match l ρ S1 with | some (i, S2) => (match u ρ S2 with | some (j, S3) => some (cutD x i j, S3) | none => none) | none => none)
  | some (.frz x, S1) => (match l ρ S1 with | some (i, S2) => (match u ρ S2 with | some (j, S3) => some (cutD x i j, S3) | none => none) | none => none)
  | _ => none
theorem eSl_some {l u : EO} (q : eSl f l u ρ S = some (d, S')) : ∃ x S1 i S2 j, f ρ S = some (x, S1) ∧ l ρ S1 = some (i, S2) ∧ u ρ S2 = some (j, S') ∧ gSl x i j = some d := by
  unfold eSl at q
  split at q
  · split at q
    · split at q
      · split at q
        · cases q; exact ⟨_, _, _, _, _, by assumption, by assumption, by assumption, by assumption⟩
        · cases q
      · cases q
    · cases q
  · cases q
theorem lSl_some {l u : EO} (q : lSl f l u ρ S = some (ds, S')) : ∃ x y S1 i S2 j, f ρ S = some (y, S1) ∧ (y = .lst x ∨ y = .frz x) ∧ l ρ S1 = some (i, S2) ∧ u ρ S2 = some (j, S') ∧ ds = cutD x i j := by
  unfold lSl at q
  split at q
  · split at q
    · split at q
      · cases q; exact ⟨_, _, _, _, _, _, by assumption, .inl rfl, by assumption, by assumption, rfl⟩
      · cases q
    · cases q
  · split at q
    · split at q
      · cases q; exact ⟨_, _, _, _, _, _, by assumption, .inr rfl, by assumption, by assumption, rfl⟩
      · cases q
    · cases q
  · cases q
theorem sp_sl {x : V} {dx : D} {l u : Option Int} {Q : VK} (s : StR K Θ F α H S) (rx : Rw K F α H x dx) (e : gSl dx l u = some d) (q : Post K Θ F α H S d Q) : rSlJ K x l u H Q := by
  unfold gSl at e
  split at e
  · cases e
    obtain ⟨a, vs, rfl, ha, r1⟩ := rx.seqL
    exact .inl (.inl ⟨a, vs, rfl, ha, Post.lst q s (r1.cut _ _)⟩)
  · cases e
    obtain ⟨a, vs, rfl, ha, r1⟩ := rx.seqF
    exact .inl (.inl ⟨a, vs, rfl, ha, Post.lst q s (r1.cut _ _)⟩)
  · cases e
    obtain ⟨a, vs, rfl, ha, r1⟩ := rx.tup'
    refine .inl (.inr ⟨a, vs, rfl, SqT.of ha, fun hw => ?_, fun _ => Post.tup q s (r1.cut _ _)⟩)
    rw [r1.length] at hw
    rw [cut_whole hw] at q
    exact Post.here q s (.tup ha r1)
  · split at e
    · cases e
      cases rx.str
      exact .inr ⟨_, rfl, by assumption, Post.here q s (.str _)⟩
    · cases e
  · cases e
theorem j_sl {lo hi : Option Expr} {l u : EO} {p2 : Pos} (q : PE X a (tW X.K Θ f)) (q1 : PO X lo (tOJ X.K Θ l)) (q2 : PO X hi (tOJ X.K Θ u)) : PE X (.Subscript a (.Slice lo hi none p2) pos) (tV X.K Θ (eSl f l u)) :=
  pe_weak (pe_slice sl_J q q1 q2) fun σ H Q ⟨F, α, ρ, S, d, S', h1, h2, h3, k⟩ => by
    obtain ⟨x, S1, i, S2, j, a1, a2, a3, a4⟩ := eSl_some h3
    exact ⟨F, α, ρ, S, x, S1, h1, h2, a1, fun v F1 α1 H1 st1 hs1 rv => ⟨F1, α1, ρ, S1, i, _, hs1, h2.mono h1 st1, a2, fun F2 α2 H2 st2 hs2 => ⟨F2, α2, ρ, S2, j, _, hs2, (h2.mono h1 st1).mono hs1 st2, a3, fun F3 α3 H3 st3 hs3 =>
      sp_sl hs3 ((rv.mono hs1 st2).mono hs2 st3) a4 fun v F' α' H' st hs r => k v F' α' H' (((st1.trans st2).trans st3).trans st) hs r⟩⟩⟩
theorem j_slL {lo hi : Option Expr} {l u : EO} {p2 : Pos} (q : PE X a (tW X.K Θ f)) (q1 : PO X lo (tOJ X.K Θ l)) (q2 : PO X hi (tOJ X.K Θ u)) : PE X (.Subscript a (.Slice lo hi none p2) pos) (tL X.K Θ (lSl f l u)) :=
  pe_weak (pe_slice sl_J q q1 q2) fun σ H Q ⟨F, α, ρ, S, d, S', h1, h2, h3, k⟩ => by
    obtain ⟨x, y, S1, i, S2, j, a1, ay, a2, a3, rfl⟩ := lSl_some h3
    refine ⟨F, α, ρ, S, y, S1, h1, h2, a1, fun v F1 α1 H1 st1 hs1 rv => ⟨F1, α1, ρ, S1, i, _, hs1, h2.mono h1 st1, a2, fun F2 α2 H2 st2 hs2 => ⟨F2, α2, ρ, S2, j, _, hs2, (h2.mono h1 st1).mono hs1 st2, a3, fun F3 α3 H3 st3 hs3 => ?_⟩⟩⟩
    have st := (st1.trans st2).trans st3
    have r3 := (rv.mono hs1 st2).mono hs2 st3
    have fin : ∀ {b : Addr} {vs : List V}, RpA X.K F3 α3 H3 vs x → ∀ p, H3 p = none → Q (.ref p) (upd H3 p (.lst (cutV vs i j))) := fun {b vs} r1 => PostL.lst (fun a vs F' α' H' st' hs hn nf hl r => k a vs F' α' H' (st.trans st') hs (st.back hn) nf hl r) hs3 (r1.cut _ _)
    rcases ay with rfl | rfl
    · obtain ⟨b, vs, rfl, ha, r1⟩ := r3.seqL
      exact .inl (.inl ⟨b, vs, rfl, ha, fin (b := b) r1⟩)
    · obtain ⟨b, vs, rfl, ha, r1⟩ := r3.seqF
      exact .inl (.inl ⟨b, vs, rfl, ha, fin (b := b) r1⟩)
/-- xs[::-1] -/
def lRev (f : EX) : EL := fun ρ S => match f ρ S with | some (.lst x, S1) => some (x.reverse, S1) | some (.frz x, S1) => some (x.reverse, S1) | _ => none
theorem j_rev {e : Expr} (raw : PE X e (tRevL X.K (tW X.K Θ f))) : PE X e (tL X.K Θ (lRev f)) := pe_weak raw fun σ H Q ⟨F, α, ρ, S, d, S', h1, h2, h3, k⟩ => by
  unfold lRev at h3
  split at h3
  · rename_i x S1 e
    cases h3
    refine ⟨F, α, ρ, S, _, _, h1, h2, e, fun v F1 α1 H1 st1 hs1 rv => ?_⟩
    obtain ⟨b, vs, rfl, ha, r1⟩ := rv.seqL
    exact ⟨b, vs, rfl, ha, PostL.lst (fun a vs F' α' H' st' hs hn nf hl r => k a vs F' α' H' (st1.trans st') hs (st1.back hn) nf hl r) hs1 r1.reverse⟩
  · rename_i x S1 e
    cases h3
    refine ⟨F, α, ρ, S, _, _, h1, h2, e, fun v F1 α1 H1 st1 hs1 rv => ?_⟩
    obtain ⟨b, vs, rfl, ha, r1⟩ := rv.seqF
    exact ⟨b, vs, rfl, ha, PostL.lst (fun a vs F' α' H' st' hs hn nf hl r => k a vs F' α' H' (st1.trans st') hs (st1.back hn) nf hl r) hs1 r1.reverse⟩
  · cases h3

/-! ### sep.join(xs) -/
def gJoin : D → D → Option D
  | .str a, .lst xs => match strs? xs with | some ys => if (ys.map (·.length)).sum + ys.length * a.length ≤ 16777216 then some (.str (Txt.join a ys)) else none | none => none
  | .str a, .tup xs => match strs? xs with | some ys => if (ys.map (·.length)).sum + ys.length * a.length ≤ 16777216 then some (.str (Txt.join a ys)) else none | none => none
  | _, _ => none
abbrev rJoinJ (K : PySem.W.Frag) : V → List V → Hp → VK → Prop := fun x xs H Q => ∃ a p, ∃ ys : List Str, x = .str a ∧ xs = [.ref p] ∧ (SqL K H p (ys.map V.str) ∨ SqT K H p (ys.map V.str)) ∧
      (ys.map (·.length)).sum + ys.length * a.length ≤ 16777216 ∧ Q (.str (Txt.join a ys)) H
theorem j_join {e : Expr} (raw : PE X e (tM1 (rJoinJ X.K) (tW X.K Θ f) (tW X.K Θ h))) : PE X e (tV X.K Θ (e2 gJoin f h)) := pe_weak raw fun σ H Q ⟨F, α, ρ, S, d, S', h1, h2, h3, k⟩ => by
  obtain ⟨x, S1, y, a1, a2, a3⟩ := e2_some h3
  refine ⟨F, α, ρ, S, x, S1, h1, h2, a1, fun v F1 α1 H1 st1 hs1 rv => ?_⟩
  unfold gJoin at a3
  split at a3
  · rename_i z xs
    split at a3
    · rename_i ys ey
      split at a3
      · rename_i hz
        cases a3
        cases rv.str
        refine ⟨⟨z, rfl⟩, F1, α1, ρ, S1, _, _, hs1, h2.mono h1 st1, a2, fun v2 F2 α2 H2 st2 hs2 rv2 => ?_⟩
        obtain ⟨b, vs, rfl, hb, r2⟩ := rv2.seqL
        rw [strs_of r2 ey] at hb
        exact ⟨z, b, ys, rfl, rfl, .inl hb, hz, k _ F2 α2 H2 (st1.trans st2) hs2 (.str _)⟩
      · cases a3
    · cases a3
  · rename_i z xs
    split at a3
    · rename_i ys ey
      split at a3
      · rename_i hz
        cases a3
        cases rv.str
        refine ⟨⟨z, rfl⟩, F1, α1, ρ, S1, _, _, hs1, h2.mono h1 st1, a2, fun v2 F2 α2 H2 st2 hs2 rv2 => ?_⟩
        obtain ⟨b, vs, rfl, hb, r2⟩ := rv2.seqT
        rw [strs_of r2 ey] at hb
        exact ⟨z, b, ys, rfl, rfl, .inr hb, hz, k _ F2 α2 H2 (st1.trans st2) hs2 (.str _)⟩
      · cases a3
    · cases a3
  · cases a3

/-! ### dicts of the store -/
def obGet : Ob → Str → Option D
  | [], _ => none
  | (k, x) :: r, m => if k = m then some x else obGet r m
def obHas : Ob → Str → Bool
  | [], _ => false
  | (k, _) :: r, m => if k = m then true else obHas r m
def obSet : Ob → Str → D → Ob
  | [], _, _ => []
  | (k, x) :: r, m, y => if k = m then (k, y) :: obSet r m y else (k, x) :: obSet r m y
def obPut (o : Ob) (m : Str) (y : D) : Ob := if obHas o m = true then obSet o m y else o ++ [(m, y)]
abbrev ObR (K : PySem.W.Frag) (F : Addr → Prop) (α : List Addr) (H : Hp) : List (Key × V) → Ob → Prop := Paired (fun (p : Key × V) (q : Str × D) => p.1 = Sum.inr q.1 ∧ Rp K F α H p.2 q.2)
theorem inr_iff {a b : Str} : ((Sum.inr a : Key) = Sum.inr b) = (a = b) := propext ⟨fun h => Sum.inr.inj h, fun h => by rw [h]⟩
theorem obR_get : ∀ {kvs : List (Key × V)} {o : Ob} {m : Str} {d : D}, ObR K F α H kvs o → obGet o m = some d → ∃ v, valV kvs (Sum.inr m) = some v ∧ Rp K F α H v d
  | _, _, _, _, .nil, e => by cases e
  | _, _, m, d, .cons (a := p) (b := q) h r, e => by
    obtain ⟨k, x⟩ := q
    unfold obGet at e
    have e1 : p.1 = Sum.inr k := h.1
    split at e
    · rename_i hk
      cases e
      subst hk
      exact ⟨p.2, valV_pos e1, h.2⟩
    · rename_i hk
      obtain ⟨v, h1, h2⟩ := obR_get r e
      exact ⟨v, by rw [valV_neg (by rw [e1, inr_iff]; exact hk)]; exact h1, h2⟩
theorem obR_has : ∀ {kvs : List (Key × V)} {o : Ob} {m : Str}, ObR K F α H kvs o → (kvs.any fun kv => decide (kv.1 = Sum.inr m)) = obHas o m
  | _, _, _, .nil => rfl
  | _, _, m, .cons (a := p) (b := q) h r => by
    obtain ⟨k, x⟩ := q
    have e1 : p.1 = Sum.inr k := h.1
    have ih := obR_has (m := m) r
    rw [List.any_cons, ih, e1]
    show _ = if k = m then true else obHas _ m
    by_cases hk : k = m
    · rw [if_pos hk, decide_eq_true (by rw [hk])]; rfl
    · rw [if_neg hk, decide_eq_false (by rw [inr_iff]; exact hk), Bool.false_or]
theorem obR_set {v : V} {d : D} (rv : Rp K F α H v d) : ∀ {kvs : List (Key × V)} {o : Ob} {m : Str}, ObR K F α H kvs o → ObR K F α H (kvs.map (fun kv => if kv.1 = Sum.inr m then (kv.1, v) else kv)) (obSet o m d)
  | _, _, _, .nil => .nil
  | _, _, m, .cons (a := p) (b := q) h r => by
    obtain ⟨k, x⟩ := q
    have e1 : p.1 = Sum.inr k := h.1
    rw [List.map_cons]
    unfold obSet
    by_cases hk : k = m
    · rw [if_pos hk, if_pos (by rw [e1, hk])]
      exact .cons ⟨e1, rv⟩ (obR_set rv r)
    · rw [if_neg hk, if_neg (by rw [e1, inr_iff]; exact hk)]
      exact .cons h (obR_set rv r)
theorem pairedApp {α β : Type} {P : α → β → Prop} : ∀ {l₁ : List α} {l₂ : List β} {m₁ : List α} {m₂ : List β}, Paired P l₁ l₂ → Paired P m₁ m₂ → Paired P (l₁ ++ m₁) (l₂ ++ m₂)
  | _, _, _, _, .nil, q => q
  | _, _, _, _, .cons h t, q => .cons h (pairedApp t q)
theorem obR_put {v : V} {d : D} {kvs : List (Key × V)} {o : Ob} {m : Str} (rv : Rp K F α H v d) (r : ObR K F α H kvs o) : ObR K F α H (putK kvs (Sum.inr m) v) (obPut o m d) := by
  unfold putK obPut
  rw [obR_has r]
  split
  · exact obR_set rv r
  · exact pairedApp r (.cons ⟨rfl, rv⟩ .nil)
theorem pairedLen {α β : Type} {P : α → β → Prop} : ∀ {l₁ : List α} {l₂ : List β}, Paired P l₁ l₂ → l₁.length = l₂.length
  | _, _, .nil => rfl
  | _, _, .cons _ t => by rw [List.length_cons, List.length_cons, pairedLen t]
/-- d[k], d a dict of the store, k a text -/
def eGet (f h : EX) : EX := fun ρ S => match f ρ S with | some (.obj n, S1) => (match h ρ S1 with | some (.str m, S2) => (match S2[n]? with | some o => (match obGet o m with | some d => some (d, S2) | none => none) | none => none) | _ => none) | _ => none
theorem j_get {e : Expr} (raw : PE X e (tDGet (tW X.K Θ f) (tW X.K Θ h))) : PE X e (tV X.K Θ (eGet f h)) := pe_weak raw fun σ H Q ⟨F, α, ρ, S, d, S', h1, h2, h3, k⟩ => by
  unfold eGet at h3
  split at h3
  · rename_i n S1 ea
    split at h3
    · rename_i m S2 eb
      split at h3
      · rename_i o eo
        split at h3
        · rename_i x ex
          cases h3
          refine ⟨F, α, ρ, S, _, _, h1, h2, ea, fun v F1 α1 H1 st1 hs1 rv => ⟨F1, α1, ρ, S1, _, _, hs1, h2.mono h1 st1, eb, fun v2 F2 α2 H2 st2 hs2 rv2 => ?_⟩⟩
          obtain ⟨a, rfl, ha⟩ := (rv.mono hs1 st2).obj'
          cases rv2.str
          obtain ⟨kvs, o', e1, e2, e3⟩ := hs2.ob n a ha
          rw [eo] at e1; cases e1
          obtain ⟨w, q1, q2⟩ := obR_get e3 ex
          refine ⟨a, w, rfl, ?_, k w F2 α2 H2 (st1.trans st2) hs2 q2⟩
          rw [← q1]
          exact DGet.k (k := Sum.inr m) e2
        · cases h3
      · cases h3
    · cases h3
  · cases h3

/-! ### calls of the text's own functions -/
abbrev FN := List D → Store → Option (D × Store)
/-- the promise: what G says -/
def spF (K : PySem.W.Frag) (Θ : TL) (G : FN) (n : Nat) : Sp := fun vs H Q _ => vs.length = n ∧ ∃ F α S ds d S', StR K Θ F α H S ∧ RpA K F α H vs ds ∧ G ds S = some (d, S') ∧
  ∀ v F' α' H', Step F α H F' α' H' → StR K Θ F' α' H' S' → Rp K F' α' H' v d → Q v H'
def eCall (G : FN) (r : EL) : EX := fun ρ S => match r ρ S with | some (ds, S1) => G ds S1 | none => none
theorem j_call {e : Expr} {G : FN} {E : XK} (raw : PE X e (tCall (spF X.K Θ G es.length) [] E (tVs X.K Θ r))) (hl : ∀ ρ S ds S', r ρ S = some (ds, S') → ds.length = es.length) : PE X e (tV X.K Θ (eCall G r)) :=
  pe_weak raw fun σ H Q ⟨F, α, ρ, S, d, S', h1, h2, h3, k⟩ => by
    unfold eCall at h3
    split at h3
    · rename_i ds S1 ea
      refine ⟨F, α, ρ, S, ds, S1, h1, h2, ea, fun vs F1 α1 H1 st1 hs1 rv => ⟨by rw [List.append_nil, rv.length]; exact hl _ _ _ _ ea, F1, α1, S1, ds, d, S', hs1, by rw [List.append_nil]; exact rv, h3, fun v F2 α2 H2 st2 hs2 r2 => k v F2 α2 H2 (st1.trans st2) hs2 r2⟩⟩
    · cases h3
end
end J

set_option maxHeartbeats 4000000
namespace J
open PySem PySem.Spec PyProof.Rows L2

/-! ## 5. What is walked; comprehensions -/
/-- what may have come to pass while the frame's own lists changed -/
structure StepW (F : Addr → Prop) (α : List Addr) (H : Hp) (F' : Addr → Prop) (α' : List Addr) (H' : Hp) : Prop where
  fm : ∀ a, F a → F' a
  ap : ∃ m, α' = α ++ m ∧ ∀ a ∈ m, Fr H a
  hq : ∀ a o, H a = some o → (∀ ps, o ≠ .tbl ps) → a ∉ α → ((∃ xs, o = .lst xs) → F a) → H' a = some o
  bk : ∀ a, Fr H' a → Fr H a
section
variable {K : PySem.W.Frag} {F F' F2 : Addr → Prop} {α α' α2 : List Addr} {H H' H2 : Hp} {S S' : Store} {v : V} {d : D} {ρ ρ' : Env} {ds : List D} {σ σ' : L2.St}
theorem StepW.hp (t : StepW F α H F' α' H') (a : Addr) (o : HO) (h : H a = some o) (m : a ∉ α) (q : (∃ xs, o = .lst xs) → F a) (nt : ∀ ps, o ≠ .tbl ps := by intro _ q; cases q) : H' a = some o := t.hq a o h nt m q
theorem Step.w (t : Step F α H F' α' H') : StepW F α H F' α' H' := ⟨t.fm, t.ap, fun a o h nt n _ => t.hq a o h nt n, fun _ h => t.back h⟩
theorem StepW.refl : StepW F α H F α H := ⟨fun _ h => h, ⟨[], by simp, fun _ h => by simp at h⟩, fun _ _ h _ _ _ => h, fun _ h => h⟩
theorem StepW.trans (s : StepW F α H F' α' H') (t : StepW F' α' H' F2 α2 H2) : StepW F α H F2 α2 H2 where
  bk := fun a h => s.bk a (t.bk a h)
  fm := fun a h => t.fm a (s.fm a h)
  ap := by
    obtain ⟨m, e, hm⟩ := s.ap
    obtain ⟨m2, e2, hm2⟩ := t.ap
    refine ⟨m ++ m2, by rw [e2, e, List.append_assoc], fun a h => ?_⟩
    rcases List.mem_append.mp h with h | h
    · exact hm a h
    · exact s.bk a (hm2 a h)
  hq := fun a o h nt n q => by
    refine t.hq a o (s.hq a o h nt n q) nt (fun m => ?_) fun z => s.fm a (q z)
    obtain ⟨m1, e, hm⟩ := s.ap
    rw [e] at m
    rcases List.mem_append.mp m with m | m
    · exact n m
    · exact (hm a m).no h nt
mutual
theorem Rp.monoW (s : StR K Θ F α H S) (t : StepW F α H F' α' H') : ∀ {v : V} {d : D}, Rp K F α H v d → Rp K F' α' H' v d
  | _, _, .non => .non
  | _, _, .bl b => .bl b
  | _, _, .int i => .int i
  | _, _, .str x => .str x
  | _, _, .lst f h r => .lst (t.fm _ f) (t.hp _ _ h (s.out h fun _ e => by cases e) fun _ => f) (RpA.monoW s t r)
  | _, _, .tup h r => .tup (t.hp _ _ h (s.out h fun _ e => by cases e) fun ⟨_, z⟩ => by cases z) (RpA.monoW s t r)
  | _, _, .frz h r => .frz (h.keep (t.fm _) (fun _ h => t.hp _ _ h (s.out h fun _ e => by cases e) fun ⟨_, z⟩ => by cases z) fun f h => t.hp _ _ h (s.out h fun _ e => by cases e) fun _ => f) (RpA.monoW s t r)
  | _, _, .obj h => .obj (by
      obtain ⟨m, e, _⟩ := t.ap
      rw [e, List.getElem?_append_left (List.getElem?_eq_some_iff.mp h).1]; exact h)
theorem RpA.monoW (s : StR K Θ F α H S) (t : StepW F α H F' α' H') : ∀ {vs : List V} {ds : List D}, RpA K F α H vs ds → RpA K F' α' H' vs ds
  | _, _, .nil => .nil
  | _, _, .cons h r => .cons (Rp.monoW s t h) (RpA.monoW s t r)
end
/-- a list that is held by one slot (or is being made) changes -/
theorem StepW.mut {p : Addr} {xs ys : List V} (h : H p = some (.lst xs)) (nf : ¬ F p) : StepW F α H F α (upd H p (.lst ys)) :=
  ⟨fun _ h => h, ⟨[], by simp, fun _ h => by simp at h⟩, fun a o e _ _ q => by
    by_cases ea : a = p
    · subst ea
      rw [h] at e
      exact absurd (q ⟨xs, (Option.some.inj e).symm⟩) nf
    · rw [upd_ne ea]; exact e, fun a e o he => by
    by_cases ea : a = p
    · exact ((ea ▸ e : Fr (upd H p (.lst ys)) p).no upd_same).elim
    · exact e o (by rw [upd_ne ea]; exact he)⟩
theorem tabs_mut {p : Addr} {xs ys : List V} (s : LamX.Tabs Θ H) (h : H p = some (.lst xs)) : LamX.Tabs Θ (upd H p (.lst ys)) := fun q hq => by
  obtain ⟨ps, h1, h2, h3⟩ := s q hq
  refine ⟨ps, by rw [upd_ne (ne_of h1 h (by intro z; cases z))]; exact h1, h2, fun pos cv hc => ?_⟩
  obtain ⟨c, e1, e2⟩ := h3 pos cv hc
  exact ⟨c, e1, by rw [upd_ne (ne_of e2 h (by intro z; unfold LamX.CodeO at z; cases z))]; exact e2⟩
theorem StR.mut {p : Addr} {xs ys : List V} (s : StR K Θ F α H S) (h : H p = some (.lst xs)) (nf : ¬ F p) : StR K Θ F α (upd H p (.lst ys)) S :=
  ⟨s.len, s.nd, fun a f e => by
    by_cases ea : a = p
    · subst ea; exact nf f
    · exact s.fa a f fun o he => e o (by rw [upd_ne ea]; exact he), tabs_mut s.tb h, fun n a e => by
    obtain ⟨kvs, o, h1, h2, h3⟩ := s.ob n a e
    have ne : a ≠ p := ne_of h2 h (by intro z; cases z)
    exact ⟨kvs, o, h1, by rw [upd_ne ne]; exact h2, pairedImp h3 fun _ _ q => ⟨q.1, q.2.monoW s (StepW.mut h nf)⟩⟩⟩
theorem Step.mut {p : Addr} {ys : List V} (t : Step F α H F' α' H') (s : StR K Θ F' α' H' S) (n : Fr H p) {xs : List V} (h : H' p = some (.lst xs)) : Step F α H F' α' (upd H' p (.lst ys)) :=
  ⟨t.fm, t.fn, t.ap, fun a o e nt m => by
    by_cases ea : a = p
    · subst ea; exact (n.no e nt).elim
    · rw [upd_ne ea]; exact t.hq a o e nt m, fun a m => by
    obtain ⟨kvs, e⟩ := t.hd a m
    exact ⟨kvs, by rw [upd_ne (ne_of e h (by intro z; cases z))]; exact e⟩⟩

/-! ### iterators -/
/-- as long as T holds, the items come one by one -/
structure Wk (K : PySem.W.Frag) (Θ : TL) (T : (Addr → Prop) → List Addr → Hp → Prop) (J : It) (items : List D) : Prop where
  stop : ∀ i F α H S, T F α H → StR K Θ F α H S → items.length ≤ i → J.stop i H
  go : ∀ i F α H S, T F α H → StR K Θ F α H S → i < items.length → J.go i H
  yld : ∀ i F α H S x H', T F α H → StR K Θ F α H S → J.yld i H x H' → i < items.length → ∃ d F', items[i]? = some d ∧ Step F α H F' α H' ∧ StR K Θ F' α H' S ∧ Rp K F' α H' x d
theorem wk_list {T : (Addr → Prop) → List Addr → Hp → Prop} {a : Addr} {vs : List V} {items : List D} (h : ∀ F α H S, T F α H → StR K Θ F α H S → SqL K H a vs ∧ RpA K F α H vs items) : Wk K Θ T (Itl K a) items where
  stop := fun i F α H S t s hi => by
    obtain ⟨h1, h2⟩ := h F α H S t s
    exact ⟨vs, h1, by rw [h2.length]; exact hi⟩
  go := fun i F α H S t s hi => by
    obtain ⟨h1, h2⟩ := h F α H S t s
    rw [← h2.length] at hi
    exact ⟨vs, vs[i], h1, List.getElem?_eq_getElem hi⟩
  yld := fun i F α H S x H' t s y hi => by
    obtain ⟨h1, h2⟩ := h F α H S t s
    obtain ⟨e, q⟩ := y
    subst e
    obtain ⟨d, e1, r⟩ := h2.get (q vs h1)
    exact ⟨d, F, e1, Step.refl s, s, r⟩
theorem wk_tup {T : (Addr → Prop) → List Addr → Hp → Prop} {a : Addr} {vs : List V} {items : List D} (h : ∀ F α H S, T F α H → StR K Θ F α H S → SqT K H a vs ∧ RpA K F α H vs items) : Wk K Θ T (Itt K a) items where
  stop := fun i F α H S t s hi => by
    obtain ⟨h1, h2⟩ := h F α H S t s
    exact ⟨vs, h1, by rw [h2.length]; exact hi⟩
  go := fun i F α H S t s hi => by
    obtain ⟨h1, h2⟩ := h F α H S t s
    rw [← h2.length] at hi
    exact ⟨vs, vs[i], h1, List.getElem?_eq_getElem hi⟩
  yld := fun i F α H S x H' t s y hi => by
    obtain ⟨h1, h2⟩ := h F α H S t s
    obtain ⟨e, q⟩ := y
    subst e
    obtain ⟨d, e1, r⟩ := h2.get (q vs h1)
    exact ⟨d, F, e1, Step.refl s, s, r⟩
def signs (z : Str) : List D := z.cps.toList.map fun c => .str ⟨#[c]⟩
theorem signs_len (z : Str) : (signs z).length = z.cps.size := by unfold signs; rw [List.length_map, Array.length_toList]
theorem wk_str {T : (Addr → Prop) → List Addr → Hp → Prop} {z : Str} : Wk K Θ T (Its z) (signs z) where
  stop := fun i F α H S t s hi => by rw [signs_len] at hi; exact hi
  go := fun i F α H S t s hi => by rw [signs_len] at hi; exact hi
  yld := fun i F α H S x H' t s y hi => by
    obtain ⟨e, c, hc, ex⟩ := y
    subst e ex
    refine ⟨.str ⟨#[c]⟩, F, ?_, Step.refl s, s, .str _⟩
    unfold signs
    rw [List.getElem?_map, Array.getElem?_toList, hc]; rfl
def ranged (lo : Int) (n : Nat) : List D := (List.range n).map fun i => .int (lo + (i : Nat))
theorem ranged_len (lo : Int) (n : Nat) : (ranged lo n).length = n := by unfold ranged; rw [List.length_map, List.length_range]
theorem wk_range {T : (Addr → Prop) → List Addr → Hp → Prop} {lo : Int} {n : Nat} : Wk K Θ T (Itr lo n) (ranged lo n) where
  stop := fun i F α H S t s hi => by rw [ranged_len] at hi; exact hi
  go := fun i F α H S t s hi => by rw [ranged_len] at hi; exact hi
  yld := fun i F α H S x H' t s y hi => by
    obtain ⟨e, ex⟩ := y
    subst e ex
    rw [ranged_len] at hi
    refine ⟨.int (lo + (i : Nat)), F, ?_, Step.refl s, s, .int _⟩
    unfold ranged
    rw [List.getElem?_map, List.getElem?_range hi]; rfl
def counted (items : List D) : List D := (List.range items.length).zipWith (fun i x => .tup [.int ((i : Nat) : Int), x]) items
theorem counted_len (items : List D) : (counted items).length = items.length := by unfold counted; rw [List.length_zipWith, List.length_range, Nat.min_self]
theorem counted_get {items : List D} {i : Nat} {d : D} (h : items[i]? = some d) : (counted items)[i]? = some (.tup [.int (i : Nat), d]) := by
  have hi : i < items.length := (List.getElem?_eq_some_iff.mp h).1
  unfold counted
  rw [List.getElem?_zipWith, List.getElem?_range hi, h]
theorem wk_enum {T : (Addr → Prop) → List Addr → Hp → Prop} {a : Addr} {vs : List V} {items : List D} (h : ∀ F α H S, T F α H → StR K Θ F α H S → SqL K H a vs ∧ RpA K F α H vs items) : Wk K Θ T (Ite K a) (counted items) where
  stop := fun i F α H S t s hi => by
    obtain ⟨h1, h2⟩ := h F α H S t s
    exact ⟨vs, h1, by rw [h2.length, ← counted_len]; exact hi⟩
  go := fun i F α H S t s hi => by
    obtain ⟨h1, h2⟩ := h F α H S t s
    rw [counted_len, ← h2.length] at hi
    exact ⟨vs, vs[i], h1, List.getElem?_eq_getElem hi⟩
  yld := fun i F α H S x H' t s y hi => by
    obtain ⟨h1, h2⟩ := h F α H S t s
    obtain ⟨p, w, rfl, hp, e, q⟩ := y
    subst e
    obtain ⟨d, e1, r⟩ := h2.get (q vs h1)
    exact ⟨_, F, counted_get e1, Step.new s hp, s.new hp, .tup upd_same (.cons (.int _) (.cons (r.mono s (Step.new s hp)) .nil))⟩

/-! ### what a for, a comprehension goes over -/
/-- strongly: as long as nobody writes what stays | weakly: as long as no list changes -/
def iJ (K : PySem.W.Frag) (Θ : TL) (f : EL) : TI := fun σ H R => ∃ F α ρ S ds S', StR K Θ F α H S ∧ EnR K F α H σ ρ ∧ f ρ S = some (ds, S') ∧
  ∀ J F' α' H', Step F α H F' α' H' → StR K Θ F' α' H' S' → Wk K Θ (StepW F' α' H') J ds → R J H'
def iW (K : PySem.W.Frag) (Θ : TL) (f : EL) : TI := fun σ H R => ∃ F α ρ S ds S', StR K Θ F α H S ∧ EnR K F α H σ ρ ∧ f ρ S = some (ds, S') ∧
  ∀ J F' α' H', Step F α H F' α' H' → StR K Θ F' α' H' S' → Wk K Θ (Step F' α' H') J ds → R J H'
theorem pi_weak {X : Cx} {tg e : Expr} {t t' : TI} (h : PI X tg e t) (w : ∀ σ H R, t' σ H R → t σ H R) : PI X tg e t' := ⟨fun pins s σ H R I q => h.run pins s σ H R I (w σ H R q)⟩
theorem pi_or {X : Cx} {tg e : Expr} {t t' : TI} (h : PI X tg e t) (h' : PI X tg e t') : PI X tg e (fun σ H R => t σ H R ∨ t' σ H R) := ⟨fun pins s σ H R I q => q.elim (h.run pins s σ H R I) (h'.run pins s σ H R I)⟩
variable {X : Cx} {a b c e tg : Expr} {es : List Expr} {f g h : EX} {r : EL} {pos p : Pos} {x : Str}
/-- the items of a list, a tuple, a text -/
def items? : D → Option (List D)
  | .lst xs => some xs
  | .frz xs => some xs
  | .tup xs => some xs
  | .str z => some (signs z)
  | _ => none
def iOf (f : EX) : EL := fun ρ S => match f ρ S with | some (x, S1) => (match items? x with | some xs => some (xs, S1) | none => none) | none => none
theorem iOf_some (q : iOf f ρ S = some (ds, S')) : ∃ x, f ρ S = some (x, S') ∧ items? x = some ds := by
  unfold iOf at q
  split at q
  · split at q
    · cases q; exact ⟨_, by assumption, by assumption⟩
    · cases q
  · cases q
theorem j_it (q : PE X a (tV X.K Θ f)) : PI X tg a (iJ X.K Θ (iOf f)) := pi_weak (pi_or (pi_or (pi_list q) (pi_tup q)) (pi_str q)) fun σ H R ⟨F, α, ρ, S, d, S', h1, h2, h3, k⟩ => by
  obtain ⟨y, a1, a2⟩ := iOf_some h3
  unfold items? at a2
  split at a2
  · rename_i xs
    cases a2
    refine .inl (.inl ⟨F, α, ρ, S, _, _, h1, h2, a1, fun v F1 α1 H1 st1 hs1 rv => ?_⟩)
    cases rv with
    | @lst b vs _ fb hb r => exact ⟨b, rfl, ⟨vs, SqL.of hb⟩, k _ F1 α1 H1 st1 hs1 (wk_list fun F2 α2 H2 S2 t s => ⟨SqL.of (t.hp b _ hb (hs1.out hb fun _ z => by cases z) fun _ => fb), r.monoW hs1 t⟩)⟩
  · rename_i xs
    cases a2
    refine .inl (.inl ⟨F, α, ρ, S, _, _, h1, h2, a1, fun v F1 α1 H1 st1 hs1 rv => ?_⟩)
    cases rv with
    | @frz b vs _ hb r => exact ⟨b, rfl, ⟨vs, hb.seq⟩, k _ F1 α1 H1 st1 hs1 (wk_list fun F2 α2 H2 S2 t s => ⟨(hb.keep (t.fm _) (fun _ hb => t.hp b _ hb (hs1.out hb fun _ z => by cases z) fun ⟨_, z⟩ => by cases z) fun f hb => t.hp b _ hb (hs1.out hb fun _ z => by cases z) fun _ => f).seq, r.monoW hs1 t⟩)⟩
  · rename_i xs
    cases a2
    refine .inl (.inr ⟨F, α, ρ, S, _, _, h1, h2, a1, fun v F1 α1 H1 st1 hs1 rv => ?_⟩)
    cases rv with
    | @tup b vs _ hb r => exact ⟨b, rfl, ⟨vs, SqT.of hb⟩, k _ F1 α1 H1 st1 hs1 (wk_tup fun F2 α2 H2 S2 t s => ⟨SqT.of (t.hp b _ hb (hs1.out hb fun _ z => by cases z) fun ⟨_, z⟩ => by cases z), r.monoW hs1 t⟩)⟩
  · rename_i z
    cases a2
    refine .inr ⟨F, α, ρ, S, _, _, h1, h2, a1, fun v F1 α1 H1 st1 hs1 rv => ?_⟩
    cases rv with
    | str _ => exact ⟨z, rfl, k _ F1 α1 H1 st1 hs1 wk_str⟩
  · cases a2
theorem j_itW (q : PE X a (tW X.K Θ f)) : PI X tg a (iW X.K Θ (iOf f)) := pi_weak (pi_or (pi_or (pi_list q) (pi_tup q)) (pi_str q)) fun σ H R ⟨F, α, ρ, S, d, S', h1, h2, h3, k⟩ => by
  obtain ⟨y, a1, a2⟩ := iOf_some h3
  unfold items? at a2
  split at a2
  · rename_i xs
    cases a2
    refine .inl (.inl ⟨F, α, ρ, S, _, _, h1, h2, a1, fun v F1 α1 H1 st1 hs1 rv => ?_⟩)
    obtain ⟨b, vs, rfl, hb, r⟩ := rv.lst'
    exact ⟨b, rfl, ⟨vs, SqL.of hb⟩, k _ F1 α1 H1 st1 hs1 (wk_list fun F2 α2 H2 S2 t s => ⟨SqL.of (t.hp b _ hb (hs1.out hb fun _ z => by cases z)), r.mono hs1 t⟩)⟩
  · rename_i xs
    cases a2
    refine .inl (.inl ⟨F, α, ρ, S, _, _, h1, h2, a1, fun v F1 α1 H1 st1 hs1 rv => ?_⟩)
    obtain ⟨b, vs, rfl, hb, r⟩ := rv.frz'
    exact ⟨b, rfl, ⟨vs, hb.seq⟩, k _ F1 α1 H1 st1 hs1 (wk_list fun F2 α2 H2 S2 t s => ⟨(hb.keep (t.fm _) (fun _ hb => t.hp b _ hb (hs1.out hb fun _ z => by cases z)) fun _ hb => t.hp b _ hb (hs1.out hb fun _ z => by cases z)).seq, r.mono hs1 t⟩)⟩
  · rename_i xs
    cases a2
    refine .inl (.inr ⟨F, α, ρ, S, _, _, h1, h2, a1, fun v F1 α1 H1 st1 hs1 rv => ?_⟩)
    obtain ⟨b, vs, rfl, hb, r⟩ := rv.tup'
    exact ⟨b, rfl, ⟨vs, SqT.of hb⟩, k _ F1 α1 H1 st1 hs1 (wk_tup fun F2 α2 H2 S2 t s => ⟨SqT.of (t.hp b _ hb (hs1.out hb fun _ z => by cases z)), r.mono hs1 t⟩)⟩
  · rename_i z
    cases a2
    refine .inr ⟨F, α, ρ, S, _, _, h1, h2, a1, fun v F1 α1 H1 st1 hs1 rv => ?_⟩
    cases rv.str
    exact ⟨z, rfl, k _ F1 α1 H1 st1 hs1 wk_str⟩
  · cases a2
theorem wk_step {J : It} {items : List D} (w : Wk K Θ (StepW F α H) J items) : Wk K Θ (Step F α H) J items :=
  ⟨fun i F α H S t => w.stop i F α H S t.w, fun i F α H S t => w.go i F α H S t.w, fun i F α H S x H' t => w.yld i F α H S x H' t.w⟩
/-- strongly is weakly -/
theorem j_iw {l : EL} (q : PI X tg a (iJ X.K Θ l)) : PI X tg a (iW X.K Θ l) := pi_weak q fun σ H R ⟨F, α, ρ, S, d, S', h1, h2, h3, k⟩ => ⟨F, α, ρ, S, d, S', h1, h2, h3, fun J F1 α1 H1 st1 hs1 w => k J F1 α1 H1 st1 hs1 (wk_step w)⟩
/-- range -/
def iRg1 (r : EL) : EL := fun ρ S => match r ρ S with | some ([.int j], S1) => if -(2 ^ 62) ≤ j ∧ j < 2 ^ 62 then some (ranged 0 j.toNat, S1) else none | _ => none
def iRg2 (r : EL) : EL := fun ρ S => match r ρ S with | some ([.int i, .int j], S1) => if (-(2 ^ 62) ≤ i ∧ i < 2 ^ 62) ∧ -(2 ^ 62) ≤ j ∧ j < 2 ^ 62 then some (ranged i (j - i).toNat, S1) else none | _ => none
theorem j_rg1 (raw : PI X tg e (iRng1 (tWs X.K Θ r))) : PI X tg e (iJ X.K Θ (iRg1 r)) := pi_weak raw fun σ H R ⟨F, α, ρ, S, d, S', h1, h2, h3, k⟩ => by
  unfold iRg1 at h3
  split at h3
  · split at h3
    · rename_i j S1 e hj
      cases h3
      refine ⟨F, α, ρ, S, _, _, h1, h2, e, fun vs F1 α1 H1 st1 hs1 rv => ?_⟩
      obtain ⟨v, rfl, r⟩ := rv.one
      cases r.int
      exact ⟨j, rfl, hj.1, hj.2, k _ F1 α1 H1 st1 hs1 wk_range⟩
    · cases h3
  · cases h3
theorem j_rg2 (raw : PI X tg e (iRng2 (tWs X.K Θ r))) : PI X tg e (iJ X.K Θ (iRg2 r)) := pi_weak raw fun σ H R ⟨F, α, ρ, S, d, S', h1, h2, h3, k⟩ => by
  unfold iRg2 at h3
  split at h3
  · split at h3
    · rename_i i j S1 e hj
      cases h3
      refine ⟨F, α, ρ, S, _, _, h1, h2, e, fun vs F1 α1 H1 st1 hs1 rv => ?_⟩
      cases rv with
      | cons r1 rv =>
        obtain ⟨v, rfl, r2⟩ := rv.one
        cases r1.int
        cases r2.int
        exact ⟨i, j, rfl, ⟨hj.1.1, hj.1.2, hj.2.1, hj.2.2⟩, k _ F1 α1 H1 st1 hs1 wk_range⟩
    · cases h3
  · cases h3
/-- enumerate of a list -/
def iEn (r : EL) : EL := fun ρ S => match r ρ S with | some ([.lst xs], S1) => some (counted xs, S1) | _ => none
theorem j_en (raw : PI X tg e (iEnum X.K (tVs X.K Θ r))) : PI X tg e (iJ X.K Θ (iEn r)) := pi_weak raw fun σ H R ⟨F, α, ρ, S, d, S', h1, h2, h3, k⟩ => by
  unfold iEn at h3
  split at h3
  · rename_i xs S1 e
    cases h3
    refine ⟨F, α, ρ, S, _, _, h1, h2, e, fun vs F1 α1 H1 st1 hs1 rv => ?_⟩
    cases rv with
    | cons r1 rv =>
      cases rv
      cases r1 with
      | @lst b ws _ fb hb r => exact ⟨b, ws, rfl, SqL.of hb, k _ F1 α1 H1 st1 hs1 (wk_enum fun F2 α2 H2 S2 t s => ⟨SqL.of (t.hp b _ hb (hs1.out hb fun _ z => by cases z) fun _ => fb), r.monoW hs1 t⟩)⟩
  · cases h3

/-! ### targets -/
abbrev BD := D → Env → Option Env
/-- slots of one's own are those that were -/
def OwnSub (σ : L2.St) (ρ : Env) (σ' : L2.St) (ρ' : Env) : Prop := ∀ (j : Nat) (xs : List D), ρ'[j]? = some (.own xs) → ρ[j]? = some (.own xs) ∧ σ'[j]? = σ[j]?
def SpG (K : PySem.W.Frag) (Θ : TL) (g : TG) (b : BD) (vs : List Nat) : Prop := ∀ F α H S σ ρ v d ρ' (Q : L2.St → Hp → Prop), StR K Θ F α H S → EnR K F α H σ ρ → Rp K F α H v d → b d ρ = some ρ' →
  (∀ σ', EnR K F α H σ' ρ' → wipe σ' vs = wipe σ vs → OwnSub σ ρ σ' ρ' → Q σ' H) → g v σ H Q
def SpGs (K : PySem.W.Frag) (Θ : TL) (g : TGs) (b : List D → Env → Option Env) (vs : List Nat) : Prop := ∀ F α H S σ ρ ws ds ρ' (Q : L2.St → Hp → Prop), StR K Θ F α H S → EnR K F α H σ ρ → RpA K F α H ws ds → b ds ρ = some ρ' →
  (∀ σ', EnR K F α H σ' ρ' → wipe σ' vs = wipe σ vs → OwnSub σ ρ σ' ρ' → Q σ' H) → g ws σ H Q
theorem wipe_set {i : Nat} {x : Option V} : ∀ {vs : List Nat} {σ : L2.St}, i ∈ vs → wipe (σ.set i x) vs = wipe σ vs
  | [], _, h => by simp at h
  | v :: vs, σ, h => by
    have com : ∀ (us : List Nat) (τ : L2.St), i ∉ us → wipe (τ.set i x) us = (wipe τ us).set i x := by
      intro us
      induction us with
      | nil => intro τ _; rfl
      | cons u us ih =>
        intro τ hn
        show (wipe (τ.set i x) us).set u none = ((wipe τ us).set u none).set i x
        rw [ih τ fun m => hn (List.mem_cons_of_mem _ m)]
        exact List.set_comm _ _ fun e => hn (by rw [e]; exact List.mem_cons_self)
    show (wipe (σ.set i x) vs).set v none = (wipe σ vs).set v none
    by_cases hm : i ∈ vs
    · rw [wipe_set hm]
    · have e : i = v := by
        rcases List.mem_cons.mp h with h | h
        · exact h
        · exact absurd h hm
      rw [com vs σ hm, ← e, List.set_set]
theorem OwnSub.set {i : Nat} {x : Option V} {d : D} : OwnSub σ ρ (σ.set i x) (ρ.set i (.d d)) := fun j xs h => by
  by_cases hj : i = j
  · subst hj
    have hi : i < ρ.length := by
      have := (List.getElem?_eq_some_iff.mp h).1
      rwa [List.length_set] at this
    rw [List.getElem?_set_self hi] at h
    cases h
  · rw [List.getElem?_set_ne hj] at h ⊢
    exact ⟨h, rfl⟩
theorem OwnSub.trans {σ2 : L2.St} {ρ2 : Env} (a : OwnSub σ ρ σ' ρ') (b : OwnSub σ' ρ' σ2 ρ2) : OwnSub σ ρ σ2 ρ2 := fun j xs h => by
  obtain ⟨h1, e1⟩ := b j xs h
  obtain ⟨h2, e2⟩ := a j xs h1
  exact ⟨h2, e1.trans e2⟩
def bName (i : Nat) : BD := fun d ρ => some (ρ.set i (.d d))
theorem sg_name {i : Nat} {vs : List Nat} (h : i ∈ vs) : SpG K Θ (gName i) (bName i) vs := by
  intro F α H S σ ρ v d ρ' Q s e r q k
  cases q
  exact k _ (e.set i r) (wipe_set h) OwnSub.set
def bNil : List D → Env → Option Env := fun ds ρ => match ds with | [] => some ρ | _ => none
def bCons (b : BD) (bs : List D → Env → Option Env) : List D → Env → Option Env := fun ds ρ => match ds with | d :: r => (match b d ρ with | some ρ1 => bs r ρ1 | none => none) | [] => none
def bTup (n : Nat) (bs : List D → Env → Option Env) : BD := fun d ρ => match d with | .tup xs => if xs.length = n then bs xs ρ else none | _ => none
theorem sg_nil {vs : List Nat} : SpGs K Θ gNil bNil vs := by
  intro F α H S σ ρ ws ds ρ' Q s e r q k
  cases r with
  | nil => cases q; exact ⟨rfl, k _ e rfl fun j xs h => ⟨h, rfl⟩⟩
  | cons _ _ => cases q
theorem sg_cons {vs : List Nat} {g : TG} {gs : TGs} {b : BD} {bs : List D → Env → Option Env} (h1 : SpG K Θ g b vs) (h2 : SpGs K Θ gs bs vs) : SpGs K Θ (gCons g gs) (bCons b bs) vs := by
  intro F α H S σ ρ ws ds ρ' Q s e r q k
  cases r with
  | nil => cases q
  | cons r rr =>
    unfold bCons at q
    simp only at q
    split at q
    · rename_i ρ1 e1
      refine ⟨_, _, rfl, h1 F α H S σ ρ _ _ ρ1 _ s e r e1 fun σ1 en1 w1 o1 => ?_⟩
      exact h2 F α H S σ1 ρ1 _ _ ρ' _ s en1 rr q fun σ2 en2 w2 o2 => k σ2 en2 (w2.trans w1) (o1.trans o2)
    · cases q
theorem sg_tup {vs : List Nat} {n : Nat} {gs : TGs} {bs : List D → Env → Option Env} (h : SpGs K Θ gs bs vs) : SpG K Θ (gTup K n gs) (bTup n bs) vs := by
  intro F α H S σ ρ v d ρ' Q s e r q k
  unfold bTup at q
  split at q
  · split at q
    · rename_i hn
      cases r with
      | @tup b ws _ hb r => exact ⟨b, ws, rfl, SqT.of hb, by rw [r.length]; exact hn, h F α H S σ ρ ws _ ρ' Q s e r q k⟩
    · cases q
  · cases q
end
end J

set_option maxHeartbeats 4000000
namespace J
open PySem PySem.Spec PyProof.Rows L2

section
variable {K : PySem.W.Frag} {F F' F2 : Addr → Prop} {α α' α2 : List Addr} {H H' H2 : Hp} {S S' : Store} {v : V} {d : D} {ρ ρ' : Env} {ds : List D} {σ σ' : L2.St}
variable {X : Cx} {a b c e tg : Expr} {es : List Expr} {f g h : EX} {r l : EL} {pos p : Pos} {x : Str}
/-! ### comprehensions -/
def wipeE (ρ : Env) : List Nat → Env
  | [] => ρ
  | v :: vs => (wipeE ρ vs).set v .un
theorem EnR.un (e : EnR K F α H σ ρ) (i : Nat) : EnR K F α H (σ.set i none) (ρ.set i .un) := by
  refine ⟨by rw [List.length_set, List.length_set]; exact e.len, fun j s h => ?_, fun j k xs ys a h1 h2 h3 h4 => ?_⟩
  · by_cases hj : i = j
    · subst hj
      have hi : i < ρ.length := by
        have := (List.getElem?_eq_some_iff.mp h).1
        rwa [List.length_set] at this
      rw [List.getElem?_set_self hi] at h
      cases h
      exact True.intro
    · rw [List.getElem?_set_ne hj] at h
      rw [List.getElem?_set_ne hj]
      exact e.sl j s h
  · have nj : ∀ {j : Nat} {xs : List D}, (ρ.set i .un)[j]? = some (.own xs) → i ≠ j := fun {j xs} h z => by
      subst z
      have hi : i < ρ.length := by
        have := (List.getElem?_eq_some_iff.mp h).1
        rwa [List.length_set] at this
      rw [List.getElem?_set_self hi] at h
      cases h
    have n1 := nj h1
    have n2 := nj h2
    rw [List.getElem?_set_ne n1] at h1 h3
    rw [List.getElem?_set_ne n2] at h2 h4
    exact e.di j k xs ys a h1 h2 h3 h4
theorem EnR.wipe (e : EnR K F α H σ ρ) : ∀ vs : List Nat, EnR K F α H (L2.wipe σ vs) (wipeE ρ vs)
  | [] => e
  | v :: vs => (EnR.wipe e vs).un v
theorem wipe_sub {vs : List Nat} : ∀ {us : List Nat}, (∀ u ∈ us, u ∈ vs) → L2.wipe (L2.wipe σ us) vs = L2.wipe σ vs
  | [], _ => rfl
  | u :: us, h => by
    show L2.wipe ((L2.wipe σ us).set u none) vs = _
    rw [wipe_set (h u List.mem_cons_self), wipe_sub fun w m => h w (List.mem_cons_of_mem _ m)]
def cYes : ET := fun _ S => some (true, S)
theorem j_yes : PTs X [] (tT X.K Θ cYes) := ⟨fun pins s σ H Q I ⟨F, α, ρ, S, d, S', h1, h2, h3, k⟩ => by
  cases h3
  exact pts_nil.run pins s σ H Q I (k F α H (Step.refl h1) h1)⟩
/-- the items that are kept, each with what is made of it -/
def lcGo (bd : BD) (cond : ET) (elt : EX) (ρ : Env) : List D → Store → Option (List D × Store)
  | [], S => some ([], S)
  | x :: xs, S => match bd x ρ with
    | none => none
    | some ρ1 => match cond ρ1 S with
      | none => none
      | some (false, S1) => lcGo bd cond elt ρ xs S1
      | some (true, S1) => match elt ρ1 S1 with
        | none => none
        | some (y, S2) => match lcGo bd cond elt ρ xs S2 with
          | none => none
          | some (ys, S3) => some (y :: ys, S3)
def lComp (vs : List Nat) (l : EL) (bd : BD) (cond : ET) (elt : EX) : EL := fun ρ S => match l ρ S with
  | none => none
  | some (xs, S1) => match lcGo bd cond elt (wipeE ρ vs) xs S1 with
    | none => none
    | some (ys, S2) => if ys.length ≤ sizeLine then some (ys, S2) else none
theorem lComp_some {vs : List Nat} {bd : BD} {cond : ET} {elt : EX} (q : lComp vs l bd cond elt ρ S = some (ds, S')) : ∃ xs S1, l ρ S = some (xs, S1) ∧ lcGo bd cond elt (wipeE ρ vs) xs S1 = some (ds, S') ∧ ds.length ≤ sizeLine := by
  unfold lComp at q
  split at q
  · cases q
  · split at q
    · cases q
    · split at q
      · cases q; exact ⟨_, _, by assumption, by assumption, by assumption⟩
      · cases q
theorem dropCons {α : Type} {xs : List α} {i : Nat} {x : α} (h : xs[i]? = some x) : xs.drop i = x :: xs.drop (i + 1) := by
  obtain ⟨hi, e⟩ := List.getElem?_eq_some_iff.mp h
  rw [← e]
  exact List.drop_eq_getElem_cons hi
theorem StR.outL {p : Addr} {xs : List V} (s : StR K Θ F α H S) (h : H p = some (.lst xs)) : p ∉ α := s.out h fun _ e => by cases e
/-- W of the comprehension's turns -/
def LcW (K : PySem.W.Frag) (Θ : TL) (F1 : Addr → Prop) (α1 : List Addr) (H1 : Hp) (bd : BD) (cond : ET) (elt : EX) (ρw : Env) (xs : List D) (ds : List D) (S' : Store) (Dd : Addr) : Nat → Nat → Hp → Prop := fun i m H =>
  m = xs.length - i ∧ i ≤ xs.length ∧ ∃ F α S acc ys yr, Step F1 α1 H1 F α H ∧ StR K Θ F α H S ∧ ¬ F Dd ∧ H Dd = some (.lst acc) ∧ RpA K F α H acc ys ∧ lcGo bd cond elt ρw (xs.drop i) S = some (yr, S') ∧ ds = ys ++ yr
theorem comp_imp {own : List Nat} {gt : TG} {bd : BD} {cond : ET} {elt : EX} (sg : SpG K Θ gt bd own) {σ : L2.St} {H : Hp} {Q : VK} : tL K Θ (lComp own l bd cond elt) σ H Q → tLc (iW K Θ l) gt (tT K Θ cond) (tV K Θ elt) own σ H Q :=
  fun ⟨F, α, ρ, S, ds, S', h1, h2, h3, k⟩ => by
    obtain ⟨xs, S1, a1, a2, a3⟩ := lComp_some h3
    refine ⟨F, α, ρ, S, xs, S1, h1, h2, a1, fun J F1 α1 H1 st1 hs1 wk Dd hD => ?_⟩
    refine ⟨LcW K Θ F1 α1 H1 bd cond elt (wipeE ρ own) xs ds S' Dd, ⟨xs.length, by simp, Nat.zero_le _, F1, α1, S1, [], [], ds, Step.new hs1 hD, hs1.new hD, fun f => hs1.fa _ f (.of hD), upd_same, .nil, by rw [List.drop_zero]; exact a2, rfl⟩, ?_⟩
    rintro i m H2 ⟨rfl, hi, F2, α2, S2, acc, ys, yr, st2, hs2, nf, hacc, racc, hgo, hds⟩
    by_cases hlt : i < xs.length
    · have hx : xs[i]? = some xs[i] := List.getElem?_eq_getElem hlt
      rw [dropCons hx] at hgo
      refine .inr ⟨wk.go i F2 α2 H2 S2 st2 hs2 hlt, fun H' => ∃ m', m' < xs.length - i ∧ LcW K Θ F1 α1 H1 bd cond elt (wipeE ρ own) xs ds S' Dd (i + 1) m' H', fun H' q => q, fun y H3 hy => ?_⟩
      obtain ⟨dx, F3, hdx, st3, hs3, rdx⟩ := wk.yld i F2 α2 H2 S2 y H3 st2 hs2 hy hlt
      rw [hx] at hdx
      cases hdx
      unfold lcGo at hgo
      split at hgo
      · cases hgo
      · rename_i ρ1 eb
        have en3 : EnR K F3 α2 H3 (L2.wipe σ own) (wipeE ρ own) := ((h2.mono h1 st1).mono hs1 (st2.trans st3)).wipe own
        refine sg F3 α2 H3 S2 _ _ y xs[i] ρ1 _ hs3 en3 rdx eb fun σ4 en4 w4 _ => ⟨?_, ?_⟩
        · rw [w4, wipe_sub fun _ m => m]
        split at hgo
        · cases hgo
        · rename_i S4 ec
          refine ⟨F3, α2, ρ1, S2, _, _, hs3, en4, ec, fun F5 α5 H5 st5 hs5 => iteF ?_⟩
          have st : Step F2 α2 H2 F5 α5 H5 := st3.trans st5
          refine ⟨xs.length - (i + 1), by omega, rfl, hlt, F5, α5, S4, acc, ys, yr, st2.trans st, hs5, fun f => (st.fn Dd f).elim nf fun z => (z.no hacc).elim, st.hp Dd _ hacc (hs2.outL hacc), racc.mono hs2 st, hgo, hds⟩
        · rename_i S4 ec
          split at hgo
          · cases hgo
          · rename_i z S5 ee
            split at hgo
            · cases hgo
            · rename_i zs S6 er
              cases hgo
              refine ⟨F3, α2, ρ1, S2, _, _, hs3, en4, ec, fun F5 α5 H5 st5 hs5 => iteT ?_⟩
              refine ⟨F5, α5, ρ1, S4, _, _, hs5, en4.mono hs3 st5, ee, fun w F6 α6 H6 st6 hs6 rw6 => ?_⟩
              have st : Step F2 α2 H2 F6 α6 H6 := (st3.trans st5).trans st6
              have hacc6 : H6 Dd = some (.lst acc) := st.hp Dd _ hacc (hs2.outL hacc)
              have nf6 : ¬ F6 Dd := fun f => (st.fn Dd f).elim nf fun z => (z.no hacc).elim
              have hlen : acc.length < sizeLine := by
                rw [racc.length]
                rw [hds, List.length_append, List.length_cons] at a3
                omega
              refine ⟨acc, hacc6, hlen, xs.length - (i + 1), by omega, rfl, hlt, F6, α6, S5, acc ++ [w], ys ++ [z], zs, (st2.trans st).mut hs6 (.of hD) hacc6, hs6.mut hacc6 nf6, nf6, upd_same, ?_, er, by rw [hds, List.append_assoc]; rfl⟩
              exact ((racc.mono hs2 st).append (.cons rw6 .nil)).monoW hs6 (StepW.mut hacc6 nf6)
    · have ei : i = xs.length := by omega
      subst ei
      rw [List.drop_length] at hgo
      cases hgo
      rw [List.append_nil] at hds
      subst hds
      exact .inl ⟨wk.stop _ F2 α2 H2 _ st2 hs2 (Nat.le_refl _), k Dd acc F2 α2 H2 (st1.trans st2) hs2 (st1.backN hD) nf hacc racc⟩
theorem j_comp {own : List Nat} {gt : TG} {bd : BD} {cond : ET} {elt : EX} (sg : SpG X.K Θ gt bd own) (raw : PE X e (tLc (iW X.K Θ l) gt (tT X.K Θ cond) (tV X.K Θ elt) own)) : PE X e (tL X.K Θ (lComp own l bd cond elt)) := pe_weak raw fun σ H Q q => comp_imp sg q
end
end J

set_option maxHeartbeats 4000000
namespace J
open PySem PySem.Spec PyProof.Rows L2

/-! ## 6. Statements -/
/-- how a statement ends -/
inductive Out where
  | nx (ρ : Env) | rt (d : D) | bk (ρ : Env) | ct (ρ : Env) | ex (c : Str) (o : Ob)
abbrev GS := Env → Store → Option (Out × Store)
/-- what is raised: an own error of the class that mg names c, its fields o -/
def ExR (K : PySem.W.Frag) (F : Addr → Prop) (α : List Addr) (H : Hp) (mg : Str → Option Value) (c : Str) (o : Ob) (cls : Value) (d : Option Addr) : Prop :=
  ∃ C dd fs, mg c = some (.ref C) ∧ cls = .ref C ∧ d = some dd ∧ H dd = some (.xd fs) ∧ Paired (fun (p : Str × V) (q : Str × D) => p.1 = q.1 ∧ Rp K F α H p.2 q.2) fs o
/-- what is wanted of what is raised -/
structure XE where
  mg : Str → Option Value
  E : XK
/-- a place in a def's run; F0, α0, H0: its entry -/
structure At (K : PySem.W.Frag) (Θ : TL) (F0 : Addr → Prop) (α0 : List Addr) (H0 : Hp) (F : Addr → Prop) (α : List Addr) (H : Hp) (σ : L2.St) (ρ : Env) (S : Store) : Prop where
  st : Step F0 α0 H0 F α H
  sr : StR K Θ F α H S
  en : EnR K F α H σ ρ
  nw : ∀ (i : Nat) (xs : List D) (a : Addr), ρ[i]? = some (.own xs) → σ[i]? = some (some (.ref a)) → Fr H0 a
def EndOk (K : PySem.W.Frag) (Θ : TL) (ξ : XE) (F0 : Addr → Prop) (α0 : List Addr) (H0 : Hp) (F : Addr → Prop) (α : List Addr) (H : Hp) (S' : Store) (D : Ends) : Out → Prop
  | .nx ρ' => ∀ σ' F' α' H', StepW F α H F' α' H' → At K Θ F0 α0 H0 F' α' H' σ' ρ' S' → D.nx σ' H'
  | .bk ρ' => ∀ σ' F' α' H', StepW F α H F' α' H' → At K Θ F0 α0 H0 F' α' H' σ' ρ' S' → D.bk σ' H'
  | .ct ρ' => ∀ σ' F' α' H', StepW F α H F' α' H' → At K Θ F0 α0 H0 F' α' H' σ' ρ' S' → D.ct σ' H'
  | .rt d => ∀ v F' α' H', Step F0 α0 H0 F' α' H' → StR K Θ F' α' H' S' → Rp K F' α' H' v d → D.rt v H'
  | .ex c o => ∀ cls d F' α' H', Step F0 α0 H0 F' α' H' → StR K Θ F' α' H' S' → ExR K F' α' H' ξ.mg c o cls d → ξ.E cls d H'
def tS (K : PySem.W.Frag) (Θ : TL) (ξ : XE) (F0 : Addr → Prop) (α0 : List Addr) (H0 : Hp) (g : GS) : TS := fun D σ H => ∃ F α ρ S o S', At K Θ F0 α0 H0 F α H σ ρ S ∧ g ρ S = some (o, S') ∧ EndOk K Θ ξ F0 α0 H0 F α H S' D o
theorem ps_weak {X : Cx} {st : Stmt} {t t' : TS} (h : PS X st t) (w : ∀ D σ H, t' D σ H → t D σ H) : PS X st t' := ⟨fun pins s σ H D I q => h.run pins s σ H D I (w D σ H q)⟩
theorem pss_weak {X : Cx} {st : List Stmt} {t t' : TS} (h : PSs X st t) (w : ∀ D σ H, t' D σ H → t D σ H) : PSs X st t' := ⟨fun pins s σ H D I q => h.run pins s σ H D I (w D σ H q)⟩

section
variable {ξ : XE} {K : PySem.W.Frag} {F0 F F' F2 : Addr → Prop} {α0 α α' α2 : List Addr} {H0 H H' H2 : Hp} {S S' S2 : Store} {v : V} {d : D} {ρ ρ' : Env} {ds : List D} {σ σ' : L2.St} {D : Ends} {o : Out}
variable {X : Cx} {a b c e tg : Expr} {es : List Expr} {f h : EX} {r l : EL} {pos p : Pos} {x : Str} {st : Stmt} {rest body : List Stmt} {g g1 g2 : GS}
theorem At.mono (A : At K Θ F0 α0 H0 F α H σ ρ S) (t : Step F α H F' α' H') (s : StR K Θ F' α' H' S') : At K Θ F0 α0 H0 F' α' H' σ ρ S' := ⟨A.st.trans t, s, A.en.mono A.sr t, A.nw⟩
theorem EndOk.mono (t : StepW F α H F' α' H') (q : EndOk K Θ ξ F0 α0 H0 F α H S' D o) : EndOk K Θ ξ F0 α0 H0 F' α' H' S' D o := by
  cases o with
  | nx ρ' => exact fun σ' F2 α2 H2 st A => q σ' F2 α2 H2 (t.trans st) A
  | bk ρ' => exact fun σ' F2 α2 H2 st A => q σ' F2 α2 H2 (t.trans st) A
  | ct ρ' => exact fun σ' F2 α2 H2 st A => q σ' F2 α2 H2 (t.trans st) A
  | rt d => exact q
  | ex c o => exact q

/-! ### rows -/
def sNil : GS := fun ρ S => some (.nx ρ, S)
def sSeq (g1 g2 : GS) : GS := fun ρ S => match g1 ρ S with
  | some (.nx ρ1, S1) => g2 ρ1 S1
  | some (o, S1) => some (o, S1)
  | none => none
theorem j_nil : PSs X [] (tS X.K Θ ξ F0 α0 H0 sNil) := pss_weak pss_nil fun D σ H ⟨F, α, ρ, S, o, S', A, e, k⟩ => by
  cases e
  exact k σ F α H StepW.refl A
theorem j_seq (q1 : PS X st (tS X.K Θ ξ F0 α0 H0 g1)) (q2 : PSs X rest (tS X.K Θ ξ F0 α0 H0 g2)) : PSs X (st :: rest) (tS X.K Θ ξ F0 α0 H0 (sSeq g1 g2)) := pss_weak (pss_cons q1 q2) fun D σ H ⟨F, α, ρ, S, o, S', A, e, k⟩ => by
  unfold sSeq at e
  split at e
  · rename_i ρ1 S1 e1
    refine ⟨F, α, ρ, S, _, _, A, e1, fun σ1 F1 α1 H1 st1 A1 => ?_⟩
    exact ⟨F1, α1, ρ1, S1, o, S', A1, e, k.mono st1⟩
  · rename_i o1 S1 hn e1
    cases e
    refine ⟨F, α, ρ, S, _, _, A, e1, ?_⟩
    cases o with
    | nx ρ1 => exact absurd rfl (hn ρ1)
    | bk ρ1 => exact k
    | ct ρ1 => exact k
    | rt d => exact k
    | ex c o => exact k
  · cases e
theorem j_last (q1 : PS X st (tS X.K Θ ξ F0 α0 H0 g1)) : PSs X [st] (tS X.K Θ ξ F0 α0 H0 g1) := pss_one q1
/-- a list of one's own stays from here on -/
def sFreeze (i : Nat) (g : GS) : GS := fun ρ S => match ρ[i]? with
  | some (.own xs) => g (ρ.set i (.d (.lst xs))) S
  | _ => g ρ S
theorem j_freeze (i : Nat) (q : PSs X rest (tS X.K Θ ξ F0 α0 H0 g)) : PSs X rest (tS X.K Θ ξ F0 α0 H0 (sFreeze i g)) := pss_weak q fun D σ H ⟨F, α, ρ, S, o, S', A, e, k⟩ => by
  unfold sFreeze at e
  split at e
  · rename_i xs hi
    obtain ⟨a, vs, e1, e2, nf, ra⟩ := A.en.sl i _ hi
    have n0 := A.nw i xs a hi e1
    have f1 : ∀ b, F b → (F b ∨ b = a) := fun _ h => .inl h
    have sr' : StR X.K Θ (fun b => F b ∨ b = a) α H S := A.sr.fm f1 fun b q => q.elim .inl fun z => .inr (fun q => (z ▸ q : Fr H a).no e2)
    have sw : StepW F α H (fun b => F b ∨ b = a) α H := ⟨f1, ⟨[], by simp, fun _ h => by simp at h⟩, fun _ _ h _ _ _ => h, fun _ h => h⟩
    refine ⟨fun b => F b ∨ b = a, α, ρ.set i (.d (.lst xs)), S, o, S', ⟨?_, sr', ?_, fun j ys b h1 h2 => ?_⟩, e, k.mono sw⟩
    · exact ⟨fun b q => .inl (A.st.fm b q), fun b q => q.elim (A.st.fn b) fun z => .inr (by rw [z]; exact n0), A.st.ap, A.st.hq, A.st.hd⟩
    · have en1 : EnR X.K (fun b => F b ∨ b = a) α H (σ.set i (some (.ref a))) (ρ.set i (.d (.lst xs))) := by
        refine ⟨by rw [List.length_set, List.length_set]; exact A.en.len, fun j s hj => ?_, fun j k ys zs b h1 h2 h3 h4 => ?_⟩
        · by_cases hij : i = j
          · subst hij
            have hil : i < ρ.length := (List.getElem?_eq_some_iff.mp hi).1
            rw [List.getElem?_set_self hil] at hj
            cases hj
            exact ⟨.ref a, by rw [List.getElem?_set_self (by rw [A.en.len]; exact hil)], .lst (.inr rfl) e2 (ra.fm f1)⟩
          · rw [List.getElem?_set_ne hij] at hj ⊢
            have q := A.en.sl j s hj
            cases s with
            | un => exact True.intro
            | d y => obtain ⟨v, q1, q2⟩ := q; exact ⟨v, q1, q2.fm f1⟩
            | own ys =>
              obtain ⟨b, us, q1, q2, q3, q4⟩ := q
              refine ⟨b, us, q1, q2, fun z => z.elim q3 fun z => ?_, q4.fm f1⟩
              subst z
              exact hij (A.en.di i j _ _ _ hi hj e1 q1)
        · have nj : ∀ {j : Nat} {ys : List J.D}, (ρ.set i (.d (.lst xs)))[j]? = some (.own ys) → i ≠ j := fun {j ys} h z => by
            subst z
            rw [List.getElem?_set_self (List.getElem?_eq_some_iff.mp hi).1] at h
            cases h
          have n1 := nj h1
          have n2 := nj h2
          rw [List.getElem?_set_ne n1] at h1 h3
          rw [List.getElem?_set_ne n2] at h2 h4
          exact A.en.di j k ys zs b h1 h2 h3 h4
      have es : σ.set i (some (.ref a)) = σ := by
        obtain ⟨hl, eg⟩ := List.getElem?_eq_some_iff.mp e1
        rw [← eg]
        exact List.set_getElem_self hl
      rw [es] at en1
      exact en1
    · by_cases hij : i = j
      · subst hij
        rw [List.getElem?_set_self (List.getElem?_eq_some_iff.mp hi).1] at h1
        cases h1
      · rw [List.getElem?_set_ne hij] at h1
        exact A.nw j ys b h1 h2
  · exact ⟨F, α, ρ, S, o, S', A, e, k⟩

/-! ### name = value -/
theorem At.bind {A1 : At K Θ F0 α0 H0 F α H σ ρ S} (en : EnR K F α H σ' ρ') (ow : OwnSub σ ρ σ' ρ') : At K Θ F0 α0 H0 F α H σ' ρ' S := ⟨A1.st, A1.sr, en, fun i xs a h1 h2 => by
  obtain ⟨q1, q2⟩ := ow i xs h1
  exact A1.nw i xs a q1 (by rw [← q2]; exact h2)⟩
def sSet (f : EX) (bd : BD) : GS := fun ρ S => match f ρ S with | some (x, S1) => (match bd x ρ with | some ρ1 => some (.nx ρ1, S1) | none => none) | none => none
theorem j_asg {gt : TG} {bd : BD} {vs : List Nat} (sg : SpG X.K Θ gt bd vs) (raw : PS X st (tAsg (tV X.K Θ f) gt)) : PS X st (tS X.K Θ ξ F0 α0 H0 (sSet f bd)) := ps_weak raw fun D σ H ⟨F, α, ρ, S, o, S', A, e, k⟩ => by
  unfold sSet at e
  split at e
  · split at e
    · rename_i x S1 e1 _ ρ1 e2
      cases e
      exact ⟨F, α, ρ, S, x, _, A.sr, A.en, e1, fun v F1 α1 H1 st1 hs1 rv => sg F1 α1 H1 _ σ ρ v x ρ1 _ hs1 (A.en.mono A.sr st1) rv e2 fun σ' en' _ ow => k σ' F1 α1 H1 st1.w (At.bind (A1 := A.mono st1 hs1) en' ow)⟩
    · cases e
  · cases e
/-- a new list gets a name: it is that name's own -/
def sSetL (i : Nat) (r : EL) : GS := fun ρ S => match r ρ S with | some (xs, S1) => some (.nx (ρ.set i (.own xs)), S1) | none => none
theorem EnR.live (e : EnR K F α H σ ρ) {j : Nat} {ys : List J.D} {a : Addr} (h : ρ[j]? = some (.own ys)) (hs : σ[j]? = some (some (.ref a))) : ∃ vs, H a = some (.lst vs) ∧ ¬ F a := by
  obtain ⟨b, vs, q1, q2, q3, _⟩ := e.sl j _ h
  rw [hs] at q1
  cases q1
  exact ⟨vs, q2, q3⟩
theorem At.setO {xs : List J.D} {vs : List V} {a : Addr} (A : At K Θ F0 α0 H0 F α H σ ρ S) (i : Nat) (t : Step F α H F' α' H') (s : StR K Θ F' α' H' S') (hn : Fr H a) (nf : ¬ F' a) (hl : H' a = some (.lst vs)) (ra : RpA K F' α' H' vs xs) :
    At K Θ F0 α0 H0 F' α' H' (σ.set i (some (.ref a))) (ρ.set i (.own xs)) S' := by
  refine ⟨A.st.trans t, s, (A.en.mono A.sr t).setO i hl nf ra fun j ys _ h1 h2 => ?_, fun j ys b h1 h2 => ?_⟩
  · obtain ⟨us, q, _⟩ := A.en.live h1 h2
    exact (hn.no q).elim
  · by_cases hij : i = j
    · subst hij
      have hil : i < σ.length := by
        have := (List.getElem?_eq_some_iff.mp h2).1
        rwa [List.length_set] at this
      rw [List.getElem?_set_self hil] at h2
      cases h2
      exact A.st.back hn
    · rw [List.getElem?_set_ne hij] at h1 h2
      exact A.nw j ys b h1 h2
theorem j_setL {i : Nat} (raw : PS X st (tAsg (tL X.K Θ r) (gName i))) : PS X st (tS X.K Θ ξ F0 α0 H0 (sSetL i r)) := ps_weak raw fun D σ H ⟨F, α, ρ, S, o, S', A, e, k⟩ => by
  unfold sSetL at e
  split at e
  · rename_i xs S1 e1
    cases e
    exact ⟨F, α, ρ, S, xs, _, A.sr, A.en, e1, fun a vs F1 α1 H1 st1 hs1 hn nf hl ra => k _ F1 α1 H1 st1.w (A.setO i st1 hs1 hn nf hl ra)⟩
  · cases e

/-! ### return, if, an expression alone -/
def sRet (f : EX) : GS := fun ρ S => match f ρ S with | some (x, S1) => some (.rt x, S1) | none => none
theorem j_ret (q : PE X a (tV X.K Θ f)) : PS X (.Return (some a) pos) (tS X.K Θ ξ F0 α0 H0 (sRet f)) := ps_weak (ps_ret q) fun D σ H ⟨F, α, ρ, S, o, S', A, e, k⟩ => by
  unfold sRet at e
  split at e
  · rename_i x S1 e1
    cases e
    exact ⟨F, α, ρ, S, x, _, A.sr, A.en, e1, fun v F1 α1 H1 st1 hs1 rv => k v F1 α1 H1 (A.st.trans st1) hs1 rv⟩
  · cases e
def sIf (c : ET) (g1 g2 : GS) : GS := fun ρ S => match c ρ S with | some (true, S1) => g1 ρ S1 | some (false, S1) => g2 ρ S1 | none => none
theorem j_ifS {t : ET} {p q : List Stmt} (hc : PT X c (tT X.K Θ t)) (h1 : PSs X p (tS X.K Θ ξ F0 α0 H0 g1)) (h2 : PSs X q (tS X.K Θ ξ F0 α0 H0 g2)) : PS X (.If c p q pos) (tS X.K Θ ξ F0 α0 H0 (sIf t g1 g2)) := ps_weak (ps_if hc h1 h2) fun D σ H ⟨F, α, ρ, S, o, S', A, e, k⟩ => by
  unfold sIf at e
  split at e
  · rename_i S1 e1
    exact ⟨F, α, ρ, S, _, _, A.sr, A.en, e1, fun F1 α1 H1 st1 hs1 => iteT ⟨F1, α1, ρ, S1, o, S', A.mono st1 hs1, e, k.mono st1.w⟩⟩
  · rename_i S1 e1
    exact ⟨F, α, ρ, S, _, _, A.sr, A.en, e1, fun F1 α1 H1 st1 hs1 => iteF ⟨F1, α1, ρ, S1, o, S', A.mono st1 hs1, e, k.mono st1.w⟩⟩
  · cases e
def sDrop (f : EX) : GS := fun ρ S => match f ρ S with | some (_, S1) => some (.nx ρ, S1) | none => none
theorem j_drop (raw : PS X st (tDrop (tV X.K Θ f))) : PS X st (tS X.K Θ ξ F0 α0 H0 (sDrop f)) := ps_weak raw fun D σ H ⟨F, α, ρ, S, o, S', A, e, k⟩ => by
  unfold sDrop at e
  split at e
  · rename_i x S1 e1
    cases e
    exact ⟨F, α, ρ, S, x, _, A.sr, A.en, e1, fun v F1 α1 H1 st1 hs1 rv => k σ F1 α1 H1 st1.w (A.mono st1 hs1)⟩
  · cases e

/-! ### xs.append(e), xs.extend(e) -/
/-- the own list of slot i becomes another -/
theorem At.change {i : Nat} {a : Addr} {xs ys : List J.D} {vs us : List V} (A : At K Θ F0 α0 H0 F α H σ ρ S) (hi : ρ[i]? = some (.own xs)) (hs : σ[i]? = some (some (.ref a))) (hl : H a = some (.lst vs)) (nf : ¬ F a)
    (rn : RpA K F α H us ys) : At K Θ F0 α0 H0 F α (upd H a (.lst us)) σ (ρ.set i (.own ys)) S := by
  have n0 := A.nw i xs a hi hs
  have sw : StepW F α H F α (upd H a (.lst us)) := StepW.mut hl nf
  have es : σ.set i (some (.ref a)) = σ := by
    obtain ⟨hl, eg⟩ := List.getElem?_eq_some_iff.mp hs
    rw [← eg]
    exact List.set_getElem_self hl
  have hil : i < ρ.length := (List.getElem?_eq_some_iff.mp hi).1
  refine ⟨A.st.mut A.sr n0 hl, A.sr.mut hl nf, ⟨by rw [List.length_set]; exact A.en.len, fun j s hj => ?_, fun j k xs' ys' b h1 h2 h3 h4 => ?_⟩, fun j ys' b h1 h2 => ?_⟩
  · by_cases hij : i = j
    · subst hij
      rw [List.getElem?_set_self hil] at hj
      cases hj
      exact ⟨a, us, hs, upd_same, nf, rn.monoW A.sr sw⟩
    · rw [List.getElem?_set_ne hij] at hj
      have q := A.en.sl j s hj
      cases s with
      | un => exact True.intro
      | d y => obtain ⟨v, q1, q2⟩ := q; exact ⟨v, q1, q2.monoW A.sr sw⟩
      | own zs =>
        obtain ⟨b, ws, q1, q2, q3, q4⟩ := q
        have nb : b ≠ a := fun z => by
          subst z
          exact hij (A.en.di i j _ _ _ hi hj hs q1)
        exact ⟨b, ws, q1, by rw [upd_ne nb]; exact q2, q3, q4.monoW A.sr sw⟩
  · have up : ∀ {j : Nat} {zs : List J.D}, (ρ.set i (.own ys))[j]? = some (.own zs) → ∃ zs', ρ[j]? = some (.own zs') := fun {j zs} h => by
      by_cases hij : i = j
      · subst hij; exact ⟨xs, hi⟩
      · rw [List.getElem?_set_ne hij] at h; exact ⟨zs, h⟩
    obtain ⟨z1, u1⟩ := up h1
    obtain ⟨z2, u2⟩ := up h2
    exact A.en.di j k _ _ b u1 u2 h3 h4
  · by_cases hij : i = j
    · subst hij; exact A.nw i xs b hi h2
    · rw [List.getElem?_set_ne hij] at h1; exact A.nw j ys' b h1 h2
def sApp (i : Nat) (f : EX) : GS := fun ρ S => match ρ[i]? with
  | some (.own xs) => (match f ρ S with | some (x, S1) => if xs.length < sizeLine then some (.nx (ρ.set i (.own (xs ++ [x]))), S1) else none | none => none)
  | _ => none
theorem j_app {i : Nat} (raw : PS X st (tDrop (tBM X.K "list" rAppend (tVar i) (tCons (tV X.K Θ f) tNil)))) : PS X st (tS X.K Θ ξ F0 α0 H0 (sApp i f)) := ps_weak raw fun D σ H ⟨F, α, ρ, S, o, S', A, e, k⟩ => by
  unfold sApp at e
  split at e
  · rename_i xs hi
    split at e
    · split at e
      · rename_i x S1 e1 hz
        cases e
        obtain ⟨a, vs, hs, hl, nf, ra⟩ := A.en.sl i _ hi
        refine ⟨.ref a, hs, .inl ⟨rfl, vs, SqL.of hl⟩, F, α, ρ, S, x, _, A.sr, A.en, e1, fun v F1 α1 H1 st1 hs1 rv => ?_⟩
        have hl1 : H1 a = some (.lst vs) := st1.hp a _ hl (A.sr.outL hl)
        have nf1 : ¬ F1 a := fun z => (st1.fn a z).elim nf fun z => (z.no hl).elim
        have A1 := A.mono st1 hs1
        refine ⟨a, vs, v, rfl, rfl, hl1, by rw [ra.length]; exact hz, ?_⟩
        exact k σ F1 α1 _ (st1.w.trans (StepW.mut hl1 nf1)) (A1.change hi hs hl1 nf1 ((ra.mono A.sr st1).append (.cons rv .nil)))
      · cases e
    · cases e
  · cases e
def sExt (i : Nat) (f : EX) : GS := fun ρ S => match ρ[i]? with
  | some (.own xs) => (match f ρ S with | some (.lst ys, S1) => if xs.length + ys.length ≤ sizeLine then some (.nx (ρ.set i (.own (xs ++ ys))), S1) else none | _ => none)
  | _ => none
theorem j_ext {i : Nat} (raw : PS X st (tDrop (tBM X.K "list" rExtend (tVar i) (tCons (tW X.K Θ f) tNil)))) : PS X st (tS X.K Θ ξ F0 α0 H0 (sExt i f)) := ps_weak raw fun D σ H ⟨F, α, ρ, S, o, S', A, e, k⟩ => by
  unfold sExt at e
  split at e
  · rename_i xs hi
    split at e
    · split at e
      · rename_i ys S1 e1 hz
        cases e
        obtain ⟨a, vs, hs, hl, nf, ra⟩ := A.en.sl i _ hi
        refine ⟨.ref a, hs, .inl ⟨rfl, vs, SqL.of hl⟩, F, α, ρ, S, _, _, A.sr, A.en, e1, fun v F1 α1 H1 st1 hs1 rv => ?_⟩
        have hl1 : H1 a = some (.lst vs) := st1.hp a _ hl (A.sr.outL hl)
        have nf1 : ¬ F1 a := fun z => (st1.fn a z).elim nf fun z => (z.no hl).elim
        have A1 := A.mono st1 hs1
        obtain ⟨b, us, rfl, hb, rb⟩ := rv.lst'
        refine ⟨a, b, vs, us, rfl, rfl, hl1, hb, by rw [ra.length, rb.length]; exact hz, ?_⟩
        exact k σ F1 α1 _ (st1.w.trans (StepW.mut hl1 nf1)) (A1.change hi hs hl1 nf1 ((ra.mono A.sr st1).append rb))
      · cases e
    · cases e
  · cases e

/-! ### d[k] = e, d a dict of the store -/
theorem alphaInj {l : List Addr} (nd : l.Nodup) {i j : Nat} {a : Addr} (h1 : l[i]? = some a) (h2 : l[j]? = some a) : i = j := by
  obtain ⟨q1, e1⟩ := List.getElem?_eq_some_iff.mp h1
  obtain ⟨q2, e2⟩ := List.getElem?_eq_some_iff.mp h2
  exact (List.getElem_inj nd).mp (e1.trans e2.symm)
theorem StR.put {n : Nat} {a : Addr} {kvs : List (Key × V)} {o o' : Ob} (s : StR K Θ F α H S) (ha : α[n]? = some a) (hk : H a = some (.dK kvs)) {kvs' : List (Key × V)} (q : ObR K F α H kvs' o') : Step F α H F α (upd H a (.dK kvs')) ∧ StR K Θ F α (upd H a (.dK kvs')) (S.set n o') := by
  have ma : a ∈ α := List.mem_of_getElem? ha
  have st : Step F α H F α (upd H a (.dK kvs')) := ⟨fun _ h => h, fun _ h => .inl h, ⟨[], by simp, fun _ h => by simp at h⟩, fun b u e _ m => by
    rw [upd_ne (fun z => m (by rw [z]; exact ma))]; exact e, fun b m => by
    by_cases z : b = a
    · exact ⟨kvs', by rw [z, upd_same]⟩
    · obtain ⟨kv, e⟩ := s.at m
      exact ⟨kv, by rw [upd_ne z]; exact e⟩⟩
  refine ⟨st, ⟨by rw [List.length_set]; exact s.len, s.nd, fun b f e => ?_, fun q hq => ?_, fun m b hb => ?_⟩⟩
  · by_cases z : b = a
    · exact (z ▸ e : Fr (upd H a (.dK kvs')) a).no upd_same
    · exact s.fa b f fun o he => e o (by rw [upd_ne z]; exact he)
  · obtain ⟨ps, h1, h2, h3⟩ := s.tb q hq
    refine ⟨ps, by rw [upd_ne (ne_of h1 hk (by intro z; cases z))]; exact h1, h2, fun pos cv hc => ?_⟩
    obtain ⟨c, e1, e2⟩ := h3 pos cv hc
    exact ⟨c, e1, by rw [upd_ne (ne_of e2 hk (by intro z; unfold LamX.CodeO at z; cases z))]; exact e2⟩
  · by_cases z : b = a
    · subst z
      have em := alphaInj s.nd hb ha
      subst em
      have hm : m < S.length := by rw [← s.len]; exact (List.getElem?_eq_some_iff.mp hb).1
      exact ⟨kvs', o', by rw [List.getElem?_set_self hm], upd_same, pairedImp q fun _ _ z => ⟨z.1, z.2.mono s st⟩⟩
    · have nm : n ≠ m := fun z2 => by
        subst z2
        rw [ha] at hb
        exact z (Option.some.inj hb).symm
      obtain ⟨kv, u, e1, e2, e3⟩ := s.ob m b hb
      exact ⟨kv, u, by rw [List.getElem?_set_ne nm]; exact e1, by rw [upd_ne z]; exact e2, pairedImp e3 fun _ _ z => ⟨z.1, z.2.mono s st⟩⟩
def sPut (fo fk fv : EX) : GS := fun ρ S => match fv ρ S with
  | some (x, S1) => (match fo ρ S1 with
    | some (.obj n, S2) => (match fk ρ S2 with
      | some (.str m, S3) => (match S3[n]? with | some o => if o.length < sizeLine then some (.nx ρ, S3.set n (obPut o m x)) else none | none => none)
      | _ => none)
    | _ => none)
  | none => none
theorem j_put {fo fk fv : EX} (raw : PS X st (sDPut (tW X.K Θ fo) (tW X.K Θ fk) (tV X.K Θ fv))) : PS X st (tS X.K Θ ξ F0 α0 H0 (sPut fo fk fv)) := ps_weak raw fun D σ H ⟨F, α, ρ, S, out, S', A, e, k⟩ => by
  unfold sPut at e
  split at e
  · rename_i x S1 e1
    split at e
    · rename_i n S2 e2
      split at e
      · rename_i m S3 e3
        split at e
        · rename_i o eo
          split at e
          · rename_i hz
            cases e
            refine ⟨F, α, ρ, S, x, S1, A.sr, A.en, e1, fun v F1 α1 H1 st1 hs1 rv => ⟨F1, α1, ρ, S1, _, S2, hs1, A.en.mono A.sr st1, e2, fun w F2 α2 H2 st2 hs2 rw2 => ⟨F2, α2, ρ, S2, _, S3, hs2, (A.en.mono A.sr st1).mono hs1 st2, e3, fun u F3 α3 H3 st3 hs3 ru => ?_⟩⟩⟩
            obtain ⟨a, rfl, ha⟩ := (rw2.mono hs2 st3).obj'
            cases ru.str
            obtain ⟨kvs, o', q1, q2, q3⟩ := hs3.ob n a ha
            rw [eo] at q1; cases q1
            have rv3 := (rv.mono hs1 st2).mono hs2 st3
            obtain ⟨st4, hs4⟩ := hs3.put (o := o) (o' := obPut o m x) ha q2 (obR_put rv3 q3)
            have sta := (st1.trans st2).trans st3
            refine ⟨a, _, rfl, DPut.k (k := Sum.inr m) q2 (by rw [pairedLen q3]; exact hz), ?_⟩
            exact k σ F3 α3 _ (sta.trans st4).w ((A.mono sta hs3).mono st4 hs4)
          · cases e
        · cases e
      · cases e
    · cases e
  · cases e

/-! ### for -/
/-- the turns -/
def forGo (bd : BD) (body : GS) : List J.D → GS
  | [], ρ, S => some (.nx ρ, S)
  | x :: xs, ρ, S => match bd x ρ with
    | none => none
    | some ρ1 => match body ρ1 S with
      | some (.nx ρ2, S2) => forGo bd body xs ρ2 S2
      | some (.ct ρ2, S2) => forGo bd body xs ρ2 S2
      | some (.bk ρ2, S2) => some (.nx ρ2, S2)
      | some (.rt d, S2) => some (.rt d, S2)
      | some (.ex c o, S2) => some (.ex c o, S2)
      | none => none
def sFor (l : EL) (bd : BD) (body : GS) : GS := fun ρ S => match l ρ S with | some (xs, S1) => forGo bd body xs ρ S1 | none => none
def ForW (K : PySem.W.Frag) (Θ : TL) (ξ : XE) (F0 : Addr → Prop) (α0 : List Addr) (H0 : Hp) (Fs : Addr → Prop) (αs : List Addr) (Hs : Hp) (S' : Store) (D : Ends) (bd : BD) (body : GS) (xs : List J.D) (o : Out) : Nat → Nat → L2.St → Hp → Prop := fun i m σ H =>
  m = xs.length - i ∧ i ≤ xs.length ∧ ∃ F α ρ S, StepW Fs αs Hs F α H ∧ At K Θ F0 α0 H0 F α H σ ρ S ∧ forGo bd body (xs.drop i) ρ S = some (o, S') ∧ EndOk K Θ ξ F0 α0 H0 F α H S' D o
theorem j_for {bd : BD} {gt : TG} {vs : List Nat} (sg : SpG X.K Θ gt bd vs) (raw : PS X st (tFor (iJ X.K Θ l) gt (tS X.K Θ ξ F0 α0 H0 g))) : PS X st (tS X.K Θ ξ F0 α0 H0 (sFor l bd g)) := ps_weak raw fun D σ H ⟨F, α, ρ, S, o, S', A, e, k⟩ => by
  unfold sFor at e
  split at e
  · rename_i xs S1 e1
    refine ⟨F, α, ρ, S, xs, S1, A.sr, A.en, e1, fun Jt F1 α1 H1 st1 hs1 wk => ?_⟩
    refine ⟨ForW X.K Θ ξ F0 α0 H0 F1 α1 H1 S' D bd g xs o, ⟨xs.length, by simp, Nat.zero_le _, F1, α1, ρ, S1, StepW.refl, A.mono st1 hs1, by rw [List.drop_zero]; exact e, k.mono st1.w⟩, ?_⟩
    rintro i m σ2 H2 ⟨rfl, hi, F2, α2, ρ2, S2, sw2, A2, hgo, k2⟩
    by_cases hlt : i < xs.length
    · have hx : xs[i]? = some xs[i] := List.getElem?_eq_getElem hlt
      rw [dropCons hx] at hgo
      refine .inr ⟨wk.go i F2 α2 H2 S2 sw2 A2.sr hlt, fun σ' H' => ∃ m', m' < xs.length - i ∧ ForW X.K Θ ξ F0 α0 H0 F1 α1 H1 S' D bd g xs o (i + 1) m' σ' H', fun σ' H' q => q, fun y H3 hy => ?_⟩
      obtain ⟨dx, F3, hdx, st3, hs3, rdx⟩ := wk.yld i F2 α2 H2 S2 y H3 sw2 A2.sr hy hlt
      rw [hx] at hdx
      cases hdx
      unfold forGo at hgo
      split at hgo
      · cases hgo
      · rename_i ρ3 eb
        have A3 := A2.mono st3 hs3
        refine sg F3 α2 H3 S2 σ2 ρ2 y xs[i] ρ3 _ hs3 A3.en rdx eb fun σ4 en4 _ ow4 => ?_
        have A4 : At X.K Θ F0 α0 H0 F3 α2 H3 σ4 ρ3 S2 := At.bind (A1 := A3) en4 ow4
        have sw3 : StepW F1 α1 H1 F3 α2 H3 := sw2.trans st3.w
        split at hgo
        · rename_i ρ5 S5 e5
          refine ⟨F3, α2, ρ3, S2, _, _, A4, e5, fun σ6 F6 α6 H6 sw6 A6 => ⟨xs.length - (i + 1), by omega, rfl, hlt, F6, α6, ρ5, S5, sw3.trans sw6, A6, hgo, k2.mono (st3.w.trans sw6)⟩⟩
        · rename_i ρ5 S5 e5
          refine ⟨F3, α2, ρ3, S2, _, _, A4, e5, fun σ6 F6 α6 H6 sw6 A6 => ⟨xs.length - (i + 1), by omega, rfl, hlt, F6, α6, ρ5, S5, sw3.trans sw6, A6, hgo, k2.mono (st3.w.trans sw6)⟩⟩
        · rename_i ρ5 S5 e5
          cases hgo
          exact ⟨F3, α2, ρ3, S2, _, _, A4, e5, fun σ6 F6 α6 H6 sw6 A6 => k2 σ6 F6 α6 H6 (st3.w.trans sw6) A6⟩
        · rename_i d5 S5 e5
          cases hgo
          exact ⟨F3, α2, ρ3, S2, _, _, A4, e5, k2⟩
        · rename_i c5 o5 S5 e5
          cases hgo
          exact ⟨F3, α2, ρ3, S2, _, _, A4, e5, k2⟩
        · cases hgo
    · have ei : i = xs.length := by omega
      subst ei
      rw [List.drop_length] at hgo
      cases hgo
      exact .inl ⟨wk.stop _ F2 α2 H2 _ sw2 A2.sr (Nat.le_refl _), k2 σ2 F2 α2 H2 StepW.refl A2⟩
  · cases e

/-! ### a def -/
def runDef (n : Nat) (g : GS) : FN := fun ds S => match g (ds.map Slot.d ++ List.replicate (n - ds.length) .un) S with
  | some (.rt d, S') => some (d, S')
  | some (.nx _, S') => some (.non, S')
  | _ => none
theorem start_own {ds : List J.D} {n : Nat} (j : Nat) (xs : List J.D) : (ds.map Slot.d ++ List.replicate n .un)[j]? ≠ some (.own xs) := fun h => by
  by_cases hj : j < ds.length
  · rw [List.getElem?_append_left (by rw [List.length_map]; exact hj), List.getElem?_map] at h
    cases q : ds[j]? with
    | none => rw [q] at h; cases h
    | some z => rw [q] at h; cases h
  · rw [List.getElem?_append_right (by rw [List.length_map]; omega), List.getElem?_replicate] at h
    split at h <;> cases h
theorem enr_start : ∀ {vs : List V} {ds : List J.D} {n : Nat}, RpA K F α H vs ds → EnR K F α H (vs.map some ++ List.replicate n none) (ds.map Slot.d ++ List.replicate n .un) := by
  intro vs ds n r
  have hl := r.length
  refine ⟨by simp [hl], fun i s h => ?_, fun i j xs ys a h1 _ _ _ => absurd h1 (start_own i xs)⟩
  cases s with
  | un => exact True.intro
  | own xs => exact absurd h (start_own i xs)
  | d x =>
    by_cases hi : i < ds.length
    · rw [List.getElem?_append_left (by rw [List.length_map]; exact hi), List.getElem?_map] at h
      cases q : ds[i]? with
      | none => rw [q] at h; cases h
      | some z =>
        rw [q] at h; cases h
        obtain ⟨v, h1, h2⟩ := r.getD q
        refine ⟨v, ?_, h2⟩
        rw [List.getElem?_append_left (by rw [List.length_map, hl]; exact hi), List.getElem?_map, h1]; rfl
    · rw [List.getElem?_append_right (by rw [List.length_map]; omega), List.getElem?_replicate] at h
      split at h <;> cases h
theorem def_ok {P : Program} {w : World} {mg : Str → Option Value} {base : Heap} {x qual : Str} {st : Stmt} {fa : Addr} {fd : FuncData} {N ps : List Str} {k : Nat} {g : GS} (Fn : Fun K x qual st fa fd) (Sc : FnScope N ps (defScope st))
    (hb : ∀ (cdv : Value) (A : Around) (outer : List PySem.Env) (s : Shared) (H : Hp) (E : XK) (F0 : Addr → Prop) (α0 : List Addr), Room k (A.deeper (envOfC qual (defScope st) s.heap.objs.size fa cdv)) →
      PSs (cxOf CX0 P w K mg base N qual (defScope st) fa cdv A outer s H E).nox (defBody st) (tS K Θ ⟨mg, fun _ _ _ => False⟩ F0 α0 H g)) : FnOk P w K mg base CX0 (k + 1) fa fd ps (spF K Θ (runDef N.length g) ps.length) := by
  refine Fn.ok Sc (fun vs H Q E h => h.1) fun cdv A outer s H vs Q E hr h => ?_
  obtain ⟨hl, F, α, S, ds, d, S', hs, ra, e, q⟩ := h
  refine ⟨_, hb cdv A outer s H E F α hr, ?_⟩
  have at0 : At K Θ F α H F α H (L2.start N vs) (ds.map Slot.d ++ List.replicate (N.length - ds.length) .un) S := by
    refine ⟨Step.refl hs, hs, ?_, fun i xs a h1 _ => absurd h1 (start_own i xs)⟩
    show EnR K F α H (vs.map some ++ List.replicate (N.length - vs.length) none) _
    rw [ra.length]
    exact enr_start ra
  unfold runDef at e
  split at e
  · rename_i d1 S1 e1
    cases e
    exact ⟨F, α, _, S, _, _, at0, e1, fun v F' α' H' st hs' r => q v F' α' H' st hs' r⟩
  · rename_i ρ1 S1 e1
    cases e
    exact ⟨F, α, _, S, _, _, at0, e1, fun σ' F' α' H' sw A' => q _ F' α' H' A'.st A'.sr .non⟩
  · cases e
/-! ### a def that may raise -/
inductive Rs where
  | ok (d : J.D) | ex (c : Str) (o : Ob)
abbrev FNX := List J.D → Store → Option (Rs × Store)
abbrev ER := Env → Store → Option (Rs × Store)
def RsOk (K : PySem.W.Frag) (Θ : TL) (ξ : XE) (F : Addr → Prop) (α : List Addr) (H : Hp) (S' : Store) (Q : VK) : Rs → Prop
  | .ok d => ∀ v F' α' H', Step F α H F' α' H' → StR K Θ F' α' H' S' → Rp K F' α' H' v d → Q v H'
  | .ex c o => ∀ cls d F' α' H', Step F α H F' α' H' → StR K Θ F' α' H' S' → ExR K F' α' H' ξ.mg c o cls d → ξ.E cls d H'
def spX (K : PySem.W.Frag) (Θ : TL) (mg : Str → Option Value) (G : FNX) (n : Nat) : Sp := fun vs H Q E => vs.length = n ∧ ∃ F α S ds r S', StR K Θ F α H S ∧ RpA K F α H vs ds ∧ G ds S = some (r, S') ∧ RsOk K Θ ⟨mg, E⟩ F α H S' Q r
def runX (n : Nat) (g : GS) : FNX := fun ds S => match g (ds.map Slot.d ++ List.replicate (n - ds.length) .un) S with
  | some (.rt d, S') => some (.ok d, S')
  | some (.nx _, S') => some (.ok .non, S')
  | some (.ex c o, S') => some (.ex c o, S')
  | _ => none
theorem def_okX {P : Program} {w : World} {mg : Str → Option Value} {base : Heap} {x qual : Str} {st : Stmt} {fa : Addr} {fd : FuncData} {N ps : List Str} {k : Nat} {g : GS} (Fn : Fun K x qual st fa fd) (Sc : FnScope N ps (defScope st))
    (hb : ∀ (cdv : Value) (A : Around) (outer : List PySem.Env) (s : Shared) (H : Hp) (E : XK) (F0 : Addr → Prop) (α0 : List Addr), Room k (A.deeper (envOfC qual (defScope st) s.heap.objs.size fa cdv)) →
      PSs (cxOf (L2.CX P w) P w K mg base N qual (defScope st) fa cdv A outer s H E) (defBody st) (tS K Θ ⟨mg, E⟩ F0 α0 H g)) : FnOk P w K mg base (L2.CX P w) (k + 1) fa fd ps (spX K Θ mg (runX N.length g) ps.length) := by
  refine Fn.okX Sc (fun vs H Q E h => h.1) fun cdv A outer s H vs Q E hr h => ?_
  obtain ⟨hl, F, α, S, ds, d, S', hs, ra, e, q⟩ := h
  refine ⟨_, hb cdv A outer s H E F α hr, ?_⟩
  have at0 : At K Θ F α H F α H (L2.start N vs) (ds.map Slot.d ++ List.replicate (N.length - ds.length) .un) S := by
    refine ⟨Step.refl hs, hs, ?_, fun i xs a h1 _ => absurd h1 (start_own i xs)⟩
    show EnR K F α H (vs.map some ++ List.replicate (N.length - vs.length) none) _
    rw [ra.length]
    exact enr_start ra
  unfold runX at e
  split at e
  · rename_i d1 S1 e1
    cases e
    exact ⟨F, α, _, S, _, _, at0, e1, q⟩
  · rename_i ρ1 S1 e1
    cases e
    exact ⟨F, α, _, S, _, _, at0, e1, fun σ' F' α' H' sw A' => q _ F' α' H' A'.st A'.sr .non⟩
  · rename_i c1 o1 S1 e1
    cases e
    exact ⟨F, α, _, S, _, _, at0, e1, q⟩
  · cases e
end
end J

set_option maxHeartbeats 4000000
namespace J
open PySem PySem.Spec PyProof.Rows L2

section
variable {ξ : XE} {K : PySem.W.Frag} {F0 F F' F2 : Addr → Prop} {α0 α α' α2 : List Addr} {H0 H Hs H' H2 : Hp} {S S' S2 : Store} {v : V} {d : D} {ρ ρ' : Env} {ds : List D} {σ σ' : L2.St} {D' : Ends} {o : Out}
variable {X : Cx} {a b c e tg : Expr} {es : List Expr} {f h : EX} {r l : EL} {pos p : Pos} {x : Str} {st : Stmt} {rest body : List Stmt} {g g1 g2 : GS}
/-! ### a, b = x, y : values, some of them new lists -/
abbrev EM := Env → Store → Option (List Slot × Store)
def mN : EM := fun _ S => some ([], S)
def mD (f : EX) (m : EM) : EM := fun ρ S => match f ρ S with | some (x, S1) => (match m ρ S1 with | some (ss, S2) => some (.d x :: ss, S2) | none => none) | none => none
def mO (l : EL) (m : EM) : EM := fun ρ S => match l ρ S with | some (xs, S1) => (match m ρ S1 with | some (ss, S2) => some (.own xs :: ss, S2) | none => none) | none => none
def NoRef (a : Addr) (vs : List V) (ss : List Slot) : Prop := ∀ (j : Nat) (ys : List D), ss[j]? = some (.own ys) → vs[j]? ≠ some (.ref a)
inductive RpM (K : PySem.W.Frag) (F : Addr → Prop) (α : List Addr) (H Hs : Hp) : List V → List Slot → Prop
  | nil : RpM K F α H Hs [] []
  | d {v : V} {x : D} {vs : List V} {ss : List Slot} : Rp K F α H v x → RpM K F α H Hs vs ss → RpM K F α H Hs (v :: vs) (.d x :: ss)
  | o {a : Addr} {ws vs : List V} {xs : List D} {ss : List Slot} : H a = some (.lst ws) → ¬ F a → RpA K F α H ws xs → Fr Hs a → NoRef a vs ss → RpM K F α H Hs vs ss → RpM K F α H Hs (.ref a :: vs) (.own xs :: ss)
theorem RpM.live : ∀ {vs : List V} {ss : List Slot} {j : Nat} {ys : List D} {a : Addr}, RpM K F α H Hs vs ss → ss[j]? = some (.own ys) → vs[j]? = some (.ref a) → Fr Hs a
  | _, _, j, ys, a, .nil, h, _ => by simp at h
  | _, _, 0, ys, a, .d _ _, h, _ => by simp at h
  | _, _, j + 1, ys, a, .d _ r, h, q => RpM.live (j := j) r (by simpa using h) (by simpa using q)
  | _, _, 0, ys, a, .o _ _ _ n _ _, h, q => by simp at q; subst q; exact n
  | _, _, j + 1, ys, a, .o _ _ _ _ _ r, h, q => RpM.live (j := j) r (by simpa using h) (by simpa using q)
/-- seen from an earlier heap -/
theorem RpM.back (bk : ∀ a, Fr Hs a → Fr H2 a) : ∀ {vs : List V} {ss : List Slot}, RpM K F α H Hs vs ss → RpM K F α H H2 vs ss
  | _, _, .nil => .nil
  | _, _, .d r q => .d r (RpM.back bk q)
  | _, _, .o h nf r n nr q => .o h nf r (bk _ n) nr (RpM.back bk q)
def tMs (K : PySem.W.Frag) (Θ : TL) (m : EM) : TA := fun σ H Q => ∃ F α ρ S ss S', StR K Θ F α H S ∧ EnR K F α H σ ρ ∧ m ρ S = some (ss, S') ∧
  ∀ vs F' α' H', Step F α H F' α' H' → StR K Θ F' α' H' S' → RpM K F' α' H' H vs ss → Q vs H'
theorem j_mn : PA X [] (tMs X.K Θ mN) := pa_weak pa_nil fun σ H Q ⟨F, α, ρ, S, d, S', h1, h2, h3, k⟩ => by
  cases h3
  exact k [] F α H (Step.refl h1) h1 .nil
theorem j_md {m : EM} (q1 : PE X a (tV X.K Θ f)) (q2 : PA X es (tMs X.K Θ m)) (hs : starEach (a :: es) X.env = (false, eval a X.env) :: starEach es X.env := by rfl) : PA X (a :: es) (tMs X.K Θ (mD f m)) :=
  pa_weak (pa_cons q1 q2 hs) fun σ H Q ⟨F, α, ρ, S, d, S', h1, h2, h3, k⟩ => by
    unfold mD at h3
    split at h3
    · split at h3
      · rename_i x S1 e1 _ ss S2 e2
        cases h3
        exact ⟨F, α, ρ, S, x, S1, h1, h2, e1, fun v F1 α1 H1 st1 hs1 rv => ⟨F1, α1, ρ, S1, ss, _, hs1, h2.mono h1 st1, e2, fun vs F2 α2 H2 st2 hs2 rv2 =>
          k _ F2 α2 H2 (st1.trans st2) hs2 (.d (rv.mono hs1 st2) (rv2.back fun _ z => st1.back z))⟩⟩
      · cases h3
    · cases h3
theorem j_mo {m : EM} (q1 : PE X a (tL X.K Θ l)) (q2 : PA X es (tMs X.K Θ m)) (hs : starEach (a :: es) X.env = (false, eval a X.env) :: starEach es X.env := by rfl) : PA X (a :: es) (tMs X.K Θ (mO l m)) :=
  pa_weak (pa_cons q1 q2 hs) fun σ H Q ⟨F, α, ρ, S, d, S', h1, h2, h3, k⟩ => by
    unfold mO at h3
    split at h3
    · split at h3
      · rename_i xs S1 e1 _ ss S2 e2
        cases h3
        refine ⟨F, α, ρ, S, xs, S1, h1, h2, e1, fun b ws F1 α1 H1 st1 hs1 hn nf hl ra => ⟨F1, α1, ρ, S1, ss, _, hs1, h2.mono h1 st1, e2, fun vs F2 α2 H2 st2 hs2 rv2 => ?_⟩⟩
        refine k _ F2 α2 H2 (st1.trans st2) hs2 (.o (st2.hp b _ hl (hs1.outL hl)) (fun z => (st2.fn b z).elim nf fun z => (z.no hl).elim) (ra.mono hs1 st2) hn (fun j ys h1 h2 => ?_) (rv2.back fun _ z => st1.back z))
        have := rv2.live h1 h2
        exact (this.no hl).elim
      · cases h3
    · cases h3
def setsV (σ : L2.St) : List Nat → List V → L2.St
  | i :: is, v :: vs => setsV (σ.set i (some v)) is vs
  | _, _ => σ
def setsS (ρ : Env) : List Nat → List Slot → Env
  | i :: is, s :: ss => setsS (ρ.set i s) is ss
  | _, _ => ρ
theorem At.setM (bk : ∀ a, Fr Hs a → Fr H0 a) : ∀ {vs : List V} {ss : List Slot} {is : List Nat} {σ : L2.St} {ρ : Env}, At K Θ F0 α0 H0 F α H σ ρ S → RpM K F α H Hs vs ss →
    (∀ (j : Nat) (ys : List D) (a : Addr), ρ[j]? = some (.own ys) → σ[j]? = some (some (.ref a)) → NoRef a vs ss) → At K Θ F0 α0 H0 F α H (setsV σ is vs) (setsS ρ is ss) S
  | _, _, [], σ, ρ, A, r, _ => by cases r <;> exact A
  | _, _, i :: is, σ, ρ, A, .nil, _ => A
  | _, _, i :: is, σ, ρ, A, .d (v := v) (x := x) rv r, no => by
    have A1 : At K Θ F0 α0 H0 F α H (σ.set i (some v)) (ρ.set i (.d x)) S := At.bind (A1 := A) (A.en.set i rv) OwnSub.set
    refine At.setM (σ := σ.set i (some v)) (ρ := ρ.set i (.d x)) (is := is) bk A1 r fun j ys a h1 h2 => ?_
    obtain ⟨q1, q2⟩ := OwnSub.set (σ := σ) (x := some v) j ys h1
    have n := no j ys a q1 (by rw [← q2]; exact h2)
    exact fun m zs z1 z2 => n (m + 1) zs (by simpa using z1) (by simpa using z2)
  | _, _, i :: is, σ, ρ, A, .o (a := a) (ws := ws) (vs := vs) (xs := xs) (ss := ss) hl nf ra hn nr r, no => by
    have en1 : EnR K F α H (σ.set i (some (.ref a))) (ρ.set i (.own xs)) := A.en.setO i hl nf ra fun j ys _ h1 h2 => no j ys a h1 h2 0 xs (by simp) (by simp)
    have A1 : At K Θ F0 α0 H0 F α H (σ.set i (some (.ref a))) (ρ.set i (.own xs)) S := ⟨A.st, A.sr, en1, fun j ys b h1 h2 => by
      by_cases hij : i = j
      · subst hij
        have hil : i < σ.length := by
          have := (List.getElem?_eq_some_iff.mp h2).1
          rwa [List.length_set] at this
        rw [List.getElem?_set_self hil] at h2
        cases h2
        exact bk a hn
      · rw [List.getElem?_set_ne hij] at h1 h2
        exact A.nw j ys b h1 h2⟩
    refine At.setM (σ := σ.set i (some (.ref a))) (ρ := ρ.set i (.own xs)) (is := is) bk A1 r fun j ys b h1 h2 => ?_
    by_cases hij : i = j
    · subst hij
      have hil : i < σ.length := by
        have := (List.getElem?_eq_some_iff.mp h2).1
        rwa [List.length_set] at this
      rw [List.getElem?_set_self hil] at h2
      cases h2
      exact nr
    · rw [List.getElem?_set_ne hij] at h1 h2
      have n := no j ys b h1 h2
      exact fun m zs z1 z2 => n (m + 1) zs (by simpa using z1) (by simpa using z2)
def sPar (is : List Nat) (m : EM) : GS := fun ρ S => match m ρ S with | some (ss, S1) => if ss.length = is.length then some (.nx (setsS ρ is ss), S1) else none | none => none
theorem RpM.len : ∀ {vs : List V} {ss : List Slot}, RpM K F α H Hs vs ss → vs.length = ss.length
  | _, _, .nil => rfl
  | _, _, .d _ r => by rw [List.length_cons, List.length_cons, RpM.len r]
  | _, _, .o _ _ _ _ _ r => by rw [List.length_cons, List.length_cons, RpM.len r]
theorem par_at {m : EM} {is : List Nat} {ss : List Slot} {vs : List V} {F1 : Addr → Prop} {α1 : List Addr} {H1 : Hp} {S1 : Store} (A : At K Θ F0 α0 H0 F α H σ ρ S) (st1 : Step F α H F1 α1 H1) (hs1 : StR K Θ F1 α1 H1 S1) (rm : RpM K F1 α1 H1 H vs ss) :
    At K Θ F0 α0 H0 F1 α1 H1 (setsV σ is vs) (setsS ρ is ss) S1 :=
  (A.mono st1 hs1).setM (fun _ z => A.st.back z) (is := is) rm fun j ys a h1 h2 m zs z1 z2 => by
    obtain ⟨us, q, _⟩ := A.en.live h1 h2
    have := rm.live z1 z2
    exact (this.no q).elim
theorem len2 {α : Type} {l : List α} (h : l.length = 2) : ∃ a b, l = [a, b] := by
  cases l with
  | nil => cases h
  | cons a l => cases l with
    | nil => cases h
    | cons b l => cases l with
      | nil => exact ⟨a, b, rfl⟩
      | cons c l => simp at h
theorem len3 {α : Type} {l : List α} (h : l.length = 3) : ∃ a b c, l = [a, b, c] := by
  cases l with
  | nil => cases h
  | cons a l =>
    obtain ⟨b, c, rfl⟩ := len2 (l := l) (by simpa using h)
    exact ⟨a, b, c, rfl⟩
/-- the stores from the right (plain local names) -/
theorem j_par2 {m : EM} {i j : Nat} (raw : PS X st (tPar i j (tMs X.K Θ m))) : PS X st (tS X.K Θ ξ F0 α0 H0 (sPar [i, j] m)) := ps_weak raw fun D σ H ⟨F, α, ρ, S, o, S', A, e, k⟩ => by
  unfold sPar at e
  split at e
  · split at e
    · rename_i ss S1 e1 hlen
      cases e
      refine ⟨F, α, ρ, S, ss, _, A.sr, A.en, e1, fun vs F1 α1 H1 st1 hs1 rm => ?_⟩
      obtain ⟨v, w, rfl⟩ := len2 (l := vs) (by rw [rm.len]; exact hlen)
      exact ⟨v, w, rfl, k _ F1 α1 H1 st1.w (par_at (m := m) (is := [i, j]) A st1 hs1 rm)⟩
    · cases e
  · cases e
theorem j_par3 {m : EM} {i j n : Nat} (raw : PS X st (tPar3 i j n (tMs X.K Θ m))) : PS X st (tS X.K Θ ξ F0 α0 H0 (sPar [i, j, n] m)) := ps_weak raw fun D σ H ⟨F, α, ρ, S, o, S', A, e, k⟩ => by
  unfold sPar at e
  split at e
  · split at e
    · rename_i ss S1 e1 hlen
      cases e
      refine ⟨F, α, ρ, S, ss, _, A.sr, A.en, e1, fun vs F1 α1 H1 st1 hs1 rm => ?_⟩
      obtain ⟨u, v, w, rfl⟩ := len3 (l := vs) (by rw [rm.len]; exact hlen)
      exact ⟨u, v, w, rfl, k _ F1 α1 H1 st1.w (par_at (m := m) (is := [i, j, n]) A st1 hs1 rm)⟩
    · cases e
  · cases e
/-- names one after another -/
def gNames : List Nat → TGs
  | [] => gNil
  | i :: is => gCons (gName i) (gNames is)
theorem gNames_go : ∀ {is : List Nat} {vs : List V} {σ : L2.St} {H : Hp} {Q : L2.St → Hp → Prop}, vs.length = is.length → Q (setsV σ is vs) H → gNames is vs σ H Q
  | [], vs, σ, H, Q, hl, q => by
    cases vs with
    | nil => exact ⟨rfl, q⟩
    | cons _ _ => cases hl
  | i :: is, vs, σ, H, Q, hl, q => by
    cases vs with
    | nil => cases hl
    | cons v vs => exact ⟨v, vs, rfl, gNames_go (is := is) (σ := σ.set i (some v)) (by simpa using hl) q⟩
/-- a tuple is made and taken apart (a cell among the names) -/
theorem j_parC {m : EM} {is : List Nat} {n : Nat} (raw : PS X st (tAsg (tTup (tMs X.K Θ m)) (gTup X.K n (gNames is)))) (hn : n = is.length) (h9 : n ≤ 1000) : PS X st (tS X.K Θ ξ F0 α0 H0 (sPar is m)) := ps_weak raw fun D σ H ⟨F, α, ρ, S, o, S', A, e, k⟩ => by
  unfold sPar at e
  split at e
  · split at e
    · rename_i ss S1 e1 hlen
      cases e
      refine ⟨F, α, ρ, S, ss, _, A.sr, A.en, e1, fun vs F1 α1 H1 st1 hs1 rm => ⟨by rw [rm.len, hlen, ← hn, sizeLine_eq]; omega, fun p hp => ?_⟩⟩
      have A2 := (par_at (m := m) (is := is) A st1 hs1 rm).mono (Step.new (o := .tup vs) hs1 hp) (hs1.new hp)
      exact ⟨p, vs, rfl, SqT.of upd_same, by rw [rm.len, hlen, hn], gNames_go (by rw [rm.len, hlen]) (k _ F1 α1 _ (st1.trans (Step.new hs1 hp)).w A2)⟩
    · cases e
  · cases e

/-! ### a written dict: a new one in the store -/
def dGo : List (Str × EX) → Env → Store → Option (Ob × Store)
  | [], _, S => some ([], S)
  | (k, f) :: r, ρ, S => match f ρ S with
    | some (x, S1) => (match dGo r ρ S1 with | some (o, S2) => some ((k, x) :: o, S2) | none => none)
    | none => none
def eDict (ks : List (Str × EX)) : EX := fun ρ S => match dGo ks ρ S with | some (o, S1) => some (.obj S1.length, S1 ++ [o]) | none => none
def trsOf (K : PySem.W.Frag) (Θ : TL) (ks : List (Str × EX)) : List (TE × TE) := ks.map fun p => (tC (.str p.1), tV K Θ p.2)
theorem dGo_pairs {K : PySem.W.Frag} : ∀ {ks : List (Str × EX)} {F : Addr → Prop} {α : List Addr} {H : Hp} {S S' : Store} {σ : L2.St} {ρ : Env} {o : Ob} {Q : List (V × V) → Hp → Prop}, StR K Θ F α H S → EnR K F α H σ ρ → dGo ks ρ S = some (o, S') →
    (∀ kvs F' α' H', Step F α H F' α' H' → StR K Θ F' α' H' S' → ObR K F' α' H' kvs o → kvs.map (·.1) = ks.map (fun p => Sum.inr p.1) → Q (kvs.map fun kv => (kV kv.1, kv.2)) H') → tPairs (trsOf K Θ ks) σ H Q
  | [], F, α, H, S, S', σ, ρ, o, Q, hs, en, e, k => by
    cases e
    exact k [] F α H (Step.refl hs) hs .nil rfl
  | (m, f) :: r, F, α, H, S, S', σ, ρ, o, Q, hs, en, e, k => by
    unfold dGo at e
    split at e
    · split at e
      · rename_i x S1 e1 _ o1 S2 e2
        cases e
        refine ⟨F, α, ρ, S, x, S1, hs, en, e1, fun v F1 α1 H1 st1 hs1 rv => ?_⟩
        exact dGo_pairs hs1 (en.mono hs st1) e2 fun kvs F2 α2 H2 st2 hs2 ro ek => k ((Sum.inr m, v) :: kvs) F2 α2 H2 (st1.trans st2) hs2 (.cons ⟨rfl, rv.mono hs1 st2⟩ ro) (by rw [List.map_cons, List.map_cons, ek])
      · cases e
    · cases e
theorem merge_nodup : ∀ {more acc : List (Key × V)}, (acc.map (·.1) ++ more.map (·.1)).Nodup → mergeK acc more = acc ++ more
  | [], acc, _ => by rw [List.append_nil]; rfl
  | p :: r, acc, h => by
    show mergeK (putK acc p.1 p.2) r = _
    have hn : (acc.any fun kv => decide (kv.1 = p.1)) = false := by
      rw [List.any_eq_false]
      intro kv m z
      have e : kv.1 = p.1 := of_decide_eq_true z
      rw [List.nodup_append] at h
      exact h.2.2 kv.1 (List.mem_map_of_mem m) p.1 (by rw [List.map_cons]; exact List.mem_cons_self) e
    have e : putK acc p.1 p.2 = acc ++ [p] := by
      unfold putK
      rw [if_neg (by rw [hn]; exact Bool.false_ne_true)]
    rw [e, merge_nodup (by rw [List.map_append, List.append_assoc]; exact h), List.append_assoc]; rfl
theorem j_dict {ks : List (Str × EX)} (raw : PE X e (tDisp (trsOf X.K Θ ks))) (hk : (ks.map (·.1)).Nodup) (h15 : ks.length ≤ 15) : PE X e (tV X.K Θ (eDict ks)) := pe_weak raw fun σ H Q ⟨F, α, ρ, S, d, S', h1, h2, h3, k⟩ => by
  unfold eDict at h3
  split at h3
  · rename_i o S1 e1
    cases h3
    intro p hp
    have st0 : Step F α H F α (upd H p (.dK [])) := Step.new h1 hp
    refine dGo_pairs (h1.new hp) (h2.mono h1 st0) e1 fun kvs F1 α1 H1 st1 hs1 ro ek => ?_
    have np : p ∉ α := fun m => by
      obtain ⟨kv, q⟩ := h1.at m
      rw [hp] at q; cases q
    have hp1 : H1 p = some (.dK []) := st1.hp p _ upd_same np
    have np1 : p ∉ α1 := fun m => by
      obtain ⟨more, ea, hm⟩ := st1.ap
      rw [ea] at m
      rcases List.mem_append.mp m with m | m
      · exact np m
      · have := hm p m
        exact this.no upd_same
    have hl : kvs.length ≤ 15 := by
      have := congrArg List.length ek
      rw [List.length_map, List.length_map] at this
      omega
    refine ⟨hp1, kvs, rfl, hl, ?_⟩
    have nd : (kvs.map (·.1)).Nodup := by
      rw [ek]
      have q : (ks.map fun p => (Sum.inr p.1 : Key)) = (ks.map (·.1)).map Sum.inr := by rw [List.map_map]; rfl
      rw [q]
      exact List.Pairwise.map _ (fun a b h e => h (Sum.inr.inj e)) hk
    rw [merge_nodup (acc := []) (by simpa using nd), List.nil_append]
    have st : Step F α H F1 α1 H1 := st0.trans st1
    have sw : ∀ {a : Addr} {w : HO}, H1 a = some w → a ≠ p → upd H1 p (.dK kvs) a = some w := fun {a w} q n => by rw [upd_ne n]; exact q
    have st2 : Step F1 α1 H1 F1 (α1 ++ [p]) (upd H1 p (.dK kvs)) → True := fun _ => True.intro
    have stF : Step F α H F1 (α1 ++ [p]) (upd H1 p (.dK kvs)) := by
      refine ⟨st.fm, st.fn, ?_, fun a w q nt n => ?_, fun a m => ?_⟩
      · obtain ⟨more, ea, hm⟩ := st.ap
        refine ⟨more ++ [p], by rw [ea, List.append_assoc], fun a m => ?_⟩
        rcases List.mem_append.mp m with m | m
        · exact hm a m
        · rw [List.mem_singleton.mp m]; exact .of hp
      · exact sw (st.hq a w q nt n) (ne_of_none q hp)
      · obtain ⟨kv, q⟩ := st.hd a m
        exact ⟨kv, sw q fun z => np (by rw [← z]; exact m)⟩
    -- what stood at H1 stands, but for p
    have keep : StepW F1 α1 H1 F1 (α1 ++ [p]) (upd H1 p (.dK kvs)) → True := fun _ => True.intro
    have rpUp : ∀ (v : V) (x : D), Rp X.K F1 α1 H1 v x → Rp X.K F1 (α1 ++ [p]) (upd H1 p (.dK kvs)) v x := by
      have two : (∀ (v : V) (x : D), Rp X.K F1 α1 H1 v x → Rp X.K F1 (α1 ++ [p]) (upd H1 p (.dK kvs)) v x) ∧ (∀ (vs : List V) (xs : List D), RpA X.K F1 α1 H1 vs xs → RpA X.K F1 (α1 ++ [p]) (upd H1 p (.dK kvs)) vs xs) := by
        refine ⟨fun v x r => ?_, fun vs xs r => ?_⟩
        · exact Rp.rec (motive_1 := fun v x _ => Rp X.K F1 (α1 ++ [p]) (upd H1 p (.dK kvs)) v x) (motive_2 := fun vs xs _ => RpA X.K F1 (α1 ++ [p]) (upd H1 p (.dK kvs)) vs xs)
            .non .bl .int .str (fun f h _ ih => .lst f (sw h (ne_of h hp1 (by intro z; cases z))) ih) (fun h _ ih => .tup (sw h (ne_of h hp1 (by intro z; cases z))) ih)
            (fun h _ ih => .frz (h.keep id (fun _ h => sw h (ne_of h hp1 (by intro z; cases z))) fun _ h => sw h (ne_of h hp1 (by intro z; cases z))) ih) (fun h => .obj (by rw [List.getElem?_append_left (List.getElem?_eq_some_iff.mp h).1]; exact h)) .nil (fun _ _ i1 i2 => .cons i1 i2) r
        · exact RpA.rec (motive_1 := fun v x _ => Rp X.K F1 (α1 ++ [p]) (upd H1 p (.dK kvs)) v x) (motive_2 := fun vs xs _ => RpA X.K F1 (α1 ++ [p]) (upd H1 p (.dK kvs)) vs xs)
            .non .bl .int .str (fun f h _ ih => .lst f (sw h (ne_of h hp1 (by intro z; cases z))) ih) (fun h _ ih => .tup (sw h (ne_of h hp1 (by intro z; cases z))) ih)
            (fun h _ ih => .frz (h.keep id (fun _ h => sw h (ne_of h hp1 (by intro z; cases z))) fun _ h => sw h (ne_of h hp1 (by intro z; cases z))) ih) (fun h => .obj (by rw [List.getElem?_append_left (List.getElem?_eq_some_iff.mp h).1]; exact h)) .nil (fun _ _ i1 i2 => .cons i1 i2) r
      exact two.1
    have hsF : StR X.K Θ F1 (α1 ++ [p]) (upd H1 p (.dK kvs)) (S1 ++ [o]) := by
      refine ⟨by rw [List.length_append, List.length_append, hs1.len]; rfl, ?_, fun a f q => ?_, fun t ht => ?_, fun n a q => ?_⟩
      · rw [List.nodup_append]
        exact ⟨hs1.nd, by simp, fun a ma b mb z => by
          rw [List.mem_singleton.mp mb] at z
          exact np1 (by rw [← z]; exact ma)⟩
      · by_cases z : a = p
        · exact (z ▸ q : Fr (upd H1 p (.dK kvs)) p).no upd_same
        · exact hs1.fa a f fun o he => q o (by rw [upd_ne z]; exact he)
      · obtain ⟨ps, h1, h2, h3⟩ := hs1.tb t ht
        refine ⟨ps, sw h1 (ne_of h1 hp1 (by intro z; cases z)), h2, fun pos cv hc => ?_⟩
        obtain ⟨c, e1, e2⟩ := h3 pos cv hc
        exact ⟨c, e1, sw e2 (ne_of e2 hp1 (by intro z; unfold LamX.CodeO at z; cases z))⟩
      · by_cases hn : n < α1.length
        · rw [List.getElem?_append_left hn] at q
          obtain ⟨kv, u, q1, q2, q3⟩ := hs1.ob n a q
          have na : a ≠ p := fun z => np1 (by rw [← z]; exact List.mem_of_getElem? q)
          exact ⟨kv, u, by rw [List.getElem?_append_left (by rw [← hs1.len]; exact hn)]; exact q1, sw q2 na, pairedImp q3 fun _ _ z => ⟨z.1, rpUp _ _ z.2⟩⟩
        · rw [List.getElem?_append_right (by omega)] at q
          have en : n - α1.length = 0 := by
            cases z : n - α1.length with
            | zero => rfl
            | succ k => rw [z] at q; simp at q
          rw [en] at q
          simp at q
          subst q
          have e2 : n = S1.length := by rw [← hs1.len]; omega
          exact ⟨kvs, o, by rw [e2, List.getElem?_append_right (Nat.le_refl _), Nat.sub_self]; rfl, upd_same, pairedImp ro fun _ _ z => ⟨z.1, rpUp _ _ z.2⟩⟩
    refine k (.ref p) F1 (α1 ++ [p]) _ stF hsF (.obj ?_)
    rw [← hs1.len, List.getElem?_append_right (Nat.le_refl _), Nat.sub_self]; rfl
  · cases h3
end
end J

set_option maxHeartbeats 4000000
namespace J
open PySem PySem.Spec PyProof.Rows L2

section
variable {ξ : XE} {K : PySem.W.Frag} {F0 F F' F2 : Addr → Prop} {α0 α α' α2 : List Addr} {H0 H Hs H' H2 : Hp} {S S' S2 : Store} {v : V} {d : D} {ρ ρ' : Env} {ds : List D} {σ σ' : L2.St} {D' : Ends} {o : Out}
variable {X : Cx} {a b c e tg : Expr} {es : List Expr} {f g h : EX} {r l : EL} {pos p : Pos} {x : Str} {st : Stmt}
/-- y = [.. for ..] on one line -/
theorem j_setC {i : Nat} {own : List Nat} {gt : TG} {bd : BD} {cond : ET} {elt : EX} (sg : SpG X.K Θ gt bd own) (raw : PS X st (tAsg (tLc (iW X.K Θ l) gt (tT X.K Θ cond) (tV X.K Θ elt) own) (gName i))) : PS X st (tAsg (tL X.K Θ (lComp own l bd cond elt)) (gName i)) :=
  ps_weak raw fun D σ H q => comp_imp sg q
/-- a new list is a value that stays -/
theorem lv_imp {σ : L2.St} {H : Hp} {Q : VK} : tV K Θ (eL r) σ H Q → tL K Θ r σ H Q := fun ⟨F, α, ρ, S, d, S', h1, h2, h3, k⟩ => by
  unfold eL at h3
  cases e : r ρ S with
  | none => rw [e] at h3; cases h3
  | some p =>
    obtain ⟨xs, S1⟩ := p
    rw [e] at h3
    cases h3
    exact ⟨F, α, ρ, S, xs, _, h1, h2, e, fun a vs F' α' H' st hs hn nf hl ra => k _ (fun b => F' b ∨ b = a) α' H' (st.keepF hn) (hs.fm (fun _ => .inl) fun b q => q.elim .inl fun e => .inr (fun z => (e ▸ z : Fr H' a).no hl)) (.lst (.inr rfl) hl (ra.fm fun _ => .inl))⟩
theorem j_setV {i : Nat} {gt : TG} (raw : PS X st (tAsg (tL X.K Θ r) gt)) : PS X st (tAsg (tV X.K Θ (eL r)) gt) := ps_weak raw fun D σ H q => lv_imp q

/-! ### comparisons as tests, chains -/
theorem op_imp {q : R2} {gg : D → D → Option D} (sp : Sp2 K Θ q gg) {σ : L2.St} {H : Hp} {Q : VK} : tV K Θ (e2 gg f h) σ H Q → tOp q (tW K Θ f) (tW K Θ h) σ H Q := fun ⟨F, α, ρ, S, d, S', h1, h2, h3, k⟩ => by
  obtain ⟨x, S1, y, a1, a2, a3⟩ := e2_some h3
  exact ⟨F, α, ρ, S, x, S1, h1, h2, a1, fun v F1 α1 H1 st1 hs1 rv => ⟨F1, α1, ρ, S1, y, _, hs1, h2.mono h1 st1, a2, fun v2 F2 α2 H2 st2 hs2 rv2 =>
    sp F2 α2 H2 _ v v2 x y d Q hs2 (rv.mono hs1 st2) rv2 a3 fun v3 F3 α3 H3 st3 hs3 rv3 => k v3 F3 α3 H3 ((st1.trans st2).trans st3) hs3 rv3⟩⟩
theorem j_cmpT {q : R2} {gg : D → D → Option D} (sp : Sp2 X.K Θ q gg) (raw : PT X e (tTest (tOp q (tW X.K Θ f) (tW X.K Θ h)))) : PT X e (tT X.K Θ (tOf (e2 gg f h))) :=
  j_test (pt_weak raw fun σ H Q q => op_imp sp q)
def eCh (g1 g2 : D → D → Option D) (f h t : EX) : EX := fun ρ S => match f ρ S with
  | some (x, S1) => (match h ρ S1 with
    | some (y, S2) => (match g1 x y with
      | some (.bl true) => (match t ρ S2 with | some (z, S3) => (match g2 y z with | some w => some (w, S3) | none => none) | none => none)
      | some (.bl false) => some (.bl false, S2)
      | _ => none)
    | none => none)
  | none => none
theorem ch_imp {q1 q2 : R2} {g1 g2 : D → D → Option D} {t : EX} (s1 : Sp2 K Θ q1 g1) (s2 : Sp2 K Θ q2 g2) {σ : L2.St} {H : Hp} {Q : VK} : tV K Θ (eCh g1 g2 f h t) σ H Q → tChain q1 q2 (tW K Θ f) (tW K Θ h) (tW K Θ t) σ H Q := fun ⟨F, α, ρ, S, d, S', h1, h2, h3, k⟩ => by
  unfold eCh at h3
  split at h3
  · rename_i x S1 e1
    split at h3
    · rename_i y S2 e2
      refine ⟨F, α, ρ, S, x, S1, h1, h2, e1, fun v F1 α1 H1 st1 hs1 rv => ⟨F1, α1, ρ, S1, y, S2, hs1, h2.mono h1 st1, e2, fun v2 F2 α2 H2 st2 hs2 rv2 => ?_⟩⟩
      split at h3
      · rename_i e3
        refine s1 F2 α2 H2 _ v v2 x y _ _ hs2 (rv.mono hs1 st2) rv2 e3 fun v3 F3 α3 H3 st3 hs3 rv3 => ?_
        cases rv3
        refine ⟨true, rfl, iteT ?_⟩
        split at h3
        · rename_i z S3 e4
          split at h3
          · rename_i w e5
            cases h3
            refine ⟨F3, α3, ρ, S2, z, _, hs3, ((h2.mono h1 st1).mono hs1 st2).mono hs2 st3, e4, fun v4 F4 α4 H4 st4 hs4 rv4 => ?_⟩
            exact s2 F4 α4 H4 _ v2 v4 y z _ Q hs4 ((rv2.mono hs2 st3).mono hs3 st4) rv4 e5 fun v5 F5 α5 H5 st5 hs5 rv5 => k v5 F5 α5 H5 ((((st1.trans st2).trans st3).trans st4).trans st5) hs5 rv5
          · cases h3
        · cases h3
      · rename_i e3
        cases h3
        refine s1 F2 α2 H2 _ v v2 x y _ _ hs2 (rv.mono hs1 st2) rv2 e3 fun v3 F3 α3 H3 st3 hs3 rv3 => ?_
        cases rv3
        exact ⟨false, rfl, iteF (k _ F3 α3 H3 ((st1.trans st2).trans st3) hs3 (.bl _))⟩
      · cases h3
    · cases h3
  · cases h3
theorem j_ch {q1 q2 : R2} {g1 g2 : D → D → Option D} {t : EX} (s1 : Sp2 X.K Θ q1 g1) (s2 : Sp2 X.K Θ q2 g2) (raw : PE X e (tChain q1 q2 (tW X.K Θ f) (tW X.K Θ h) (tW X.K Θ t))) : PE X e (tV X.K Θ (eCh g1 g2 f h t)) := pe_weak raw fun σ H Q q => ch_imp s1 s2 q
theorem j_chT {q1 q2 : R2} {g1 g2 : D → D → Option D} {t : EX} (s1 : Sp2 X.K Θ q1 g1) (s2 : Sp2 X.K Θ q2 g2) (raw : PT X e (tTest (tChain q1 q2 (tW X.K Θ f) (tW X.K Θ h) (tW X.K Θ t)))) : PT X e (tT X.K Θ (tOf (eCh g1 g2 f h t))) := j_test (pt_weak raw fun σ H Q q => ch_imp s1 s2 q)

/-! ### any value as a test -/
def gTru : D → Option Bool
  | .non => some false
  | .bl b => some b
  | .int i => some (i != 0)
  | .str z => if z.length ≤ sizeLine then some ((z.length : Int) != 0) else none
  | .lst xs => some (!xs.isEmpty)
  | .frz xs => some (!xs.isEmpty)
  | .tup xs => some (!xs.isEmpty)
  | .obj _ => none
def tTru (f : EX) : ET := fun ρ S => match f ρ S with | some (x, S1) => (match gTru x with | some b => some (b, S1) | none => none) | none => none
theorem RpA.empty {vs : List V} {ds : List D} (r : RpA K F α H vs ds) : vs.isEmpty = ds.isEmpty := by cases r <;> rfl
theorem j_tru (q : PE X a (tW X.K Θ f)) (he : ∀ whole, isTrue a X.env whole = (do let v ← whole; standAt a.pos; holding [v] (truthy v)) := by intro _; rfl) : PT X a (tT X.K Θ (tTru f)) := pt_weak (pt_truth q he) fun σ H Q ⟨F, α, ρ, S, d, S', h1, h2, h3, k⟩ => by
  unfold tTru at h3
  split at h3
  · split at h3
    · rename_i x S1 e1 _ b e2
      cases h3
      refine ⟨F, α, ρ, S, x, _, h1, h2, e1, fun v F1 α1 H1 st1 hs1 rv => ⟨d, ?_, k F1 α1 H1 st1 hs1⟩⟩
      unfold gTru at e2
      split at e2
      · cases e2; cases rv.non; exact rfl
      · cases e2; cases rv.bl; exact rfl
      · cases e2; cases rv.int; exact rfl
      · split at e2
        · cases e2; cases rv.str; exact ⟨by assumption, rfl⟩
        · cases e2
      · cases e2
        obtain ⟨b, vs, rfl, hb, r⟩ := rv.seqL
        exact .inl ⟨vs, hb, by rw [r.empty]⟩
      · cases e2
        obtain ⟨b, vs, rfl, hb, r⟩ := rv.seqF
        exact .inl ⟨vs, hb, by rw [r.empty]⟩
      · cases e2
        obtain ⟨b, vs, rfl, hb, r⟩ := rv.seqT
        exact .inr (.inl ⟨vs, hb, by rw [r.empty]⟩)
      · cases e2
    · cases h3
  · cases h3

/-! ### the text's own names -/
theorem j_gS {z : Str} (hg : Gl X x) (hm : ∃ t, X.mg x = some (.str z t)) (hd : (x == ("__debug__" : Str)) = false := by decide) : PE X (.Name x pos) (tV X.K Θ (eC (.str z))) := by
  obtain ⟨t, hm⟩ := hm
  exact j_c (pe_glob (v := .str z) hg hm ⟨t, rfl⟩ hd) (.str z)
theorem j_gI {z : Int} (hg : Gl X x) (hm : ∃ t, X.mg x = some (.int z t)) (hd : (x == ("__debug__" : Str)) = false := by decide) : PE X (.Name x pos) (tV X.K Θ (eC (.int z))) := by
  obtain ⟨t, hm⟩ := hm
  exact j_c (pe_glob (v := .int z) hg hm ⟨t, rfl⟩ hd) (.int z)
/-- a def of the text as the top leaves it -/
def Here (K : PySem.W.Frag) (mg : Str → Option Value) (x : Str) (qual : Str) (st : Stmt) (ps : List Str) : Prop := ∃ f fd, Fun K x qual st f fd ∧ mg x = some (.ref f) ∧ Binds K fd ps []
/-- .. and what it does -/
def Does (P : Program) (w : World) (K : PySem.W.Frag) (Θ : TL) (mg : Str → Option Value) (base : Heap) (k : Nat) (x : Str) (ps : List Str) (G : FN) : Prop :=
  ∃ f fd, FnOk P w K mg base CX0 k f fd ps (spF K Θ G ps.length) ∧ mg x = some (.ref f) ∧ PySem.W.keepIn K (.ref f) = true ∧ Binds K fd ps []
theorem j_callD {G : FN} {k n : Nat} {ps : List Str} (dd : Does X.prog X.w X.K Θ X.mg X.base k x ps G) (hr : Room n X.A) (hkn : k ≤ n) (hg : Gl X x) (q : PA X (a :: es) (tVs X.K Θ r)) (hl : ∀ ρ S ds S', r ρ S = some (ds, S') → ds.length = (a :: es).length) (hps : ps.length = (a :: es).length)
    (hdb : (x == ("__debug__" : Str)) = false := by decide) (he : starEach (a :: es) X.env = (false, eval a X.env) :: starEach es X.env := by rfl) (hpl : (backTo pos (starEach es X.env)).any (·.1) = false := by rfl) :
    PE X (.Call (.Name x p) (a :: es) [] pos) (tV X.K Θ (eCall G r)) := by
  obtain ⟨f, fd, F, hm, hk, hb⟩ := dd
  rw [hps] at F
  exact j_call (pe_call (dvs := []) (ds := []) (E := E0) F (hr.mono hkn) hg hm hk hb .nil (fun pins σ H s e s' I z => False.elim z) q hdb he hpl) hl
theorem j_call0 {G : FN} {k n : Nat} (dd : Does X.prog X.w X.K Θ X.mg X.base k x [] G) (hr : Room n X.A) (hkn : k ≤ n) (hg : Gl X x) (hdb : (x == ("__debug__" : Str)) = false := by decide) :
    PE X (.Call (.Name x p) [] [] pos) (tV X.K Θ (eCall G aN)) := by
  obtain ⟨f, fd, F, hm, hk, hb⟩ := dd
  refine pe_weak (pe_call0 (dvs := []) (ds := []) (E := E0) F (hr.mono hkn) hg hm hk hb .nil (fun pins σ H s e s' I z => False.elim z) hdb) fun σ H Q ⟨F, α, ρ, S, d, S', h1, h2, h3, k⟩ => ?_
  exact ⟨rfl, F, α, S, [], d, S', h1, .nil, h3, k⟩
theorem hu65 {A : Around} {k : Nat} (hr : Room k A) : A.units + 65 < cLine := by have := hr.un; omega
theorem Room.tame {A : Around} {k : Nat} (hr : Room k A) : A.units + 64 < cLine := hr.units
theorem does_of {P : Program} {w : World} {mg : Str → Option Value} {base : Heap} {qual : Str} {st : Stmt} {N ps : List Str} {k : Nat} {g : GS} (hh : Here K mg x qual st ps) (Sc : FnScope N ps (defScope st))
    (hb : ∀ (fa : Addr) (cdv : Value) (A : Around) (outer : List PySem.Env) (s : Shared) (H : Hp) (E : XK) (F0 : Addr → Prop) (α0 : List Addr), Room k (A.deeper (envOfC qual (defScope st) s.heap.objs.size fa cdv)) →
      PSs (cxOf CX0 P w K mg base N qual (defScope st) fa cdv A outer s H E).nox (defBody st) (tS K Θ ⟨mg, fun _ _ _ => False⟩ F0 α0 H g)) : Does P w K Θ mg base (k + 1) x ps (runDef N.length g) := by
  obtain ⟨f, fd, Fn, hm, hbi⟩ := hh
  exact ⟨f, fd, def_ok Fn Sc (hb f), hm, Fn.kp, hbi⟩
end
end J
namespace J
open PySem PySem.Spec PyProof.Rows L2
section
variable {f1 f2 f3 f4 : EX} {ρ : Env} {S S' : Store} {ds : List D}
theorem len_0 (z : aN ρ S = some (ds, S')) : ds.length = 0 := by cases z; rfl
theorem len_s {r : EL} {n : Nat} (h : ∀ S ds S', r ρ S = some (ds, S') → ds.length = n) (z : aC f1 r ρ S = some (ds, S')) : ds.length = n + 1 := by
  obtain ⟨x, S1, xs, _, a2, rfl⟩ := aC_some z
  rw [List.length_cons, h _ _ _ a2]
theorem len_1 (z : aC f1 aN ρ S = some (ds, S')) : ds.length = 1 := len_s (fun _ _ _ => len_0) z
theorem len_2 (z : aC f1 (aC f2 aN) ρ S = some (ds, S')) : ds.length = 2 := len_s (fun _ _ _ => len_1) z
theorem len_3 (z : aC f1 (aC f2 (aC f3 aN)) ρ S = some (ds, S')) : ds.length = 3 := len_s (fun _ _ _ => len_2) z
theorem len_4 (z : aC f1 (aC f2 (aC f3 (aC f4 aN))) ρ S = some (ds, S')) : ds.length = 4 := len_s (fun _ _ _ => len_3) z
end
end J

set_option maxHeartbeats 4000000
namespace J
open PySem PySem.Spec PyProof.Rows L2

/-! ## 7. sorted(set(texts)) -/
def txt : Value → Str
  | .str x _ => x
  | _ => Str.empty
/-- an entry of a set of texts -/
def TxE (w : World) (e : Int × Value) : Prop := (∃ tk, e.2 = .str (txt e.2) tk) ∧ e.1 = hashStr w (txt e.2)
def txts (es : Array (Int × Value)) : List Str := es.toList.map fun e => txt e.2
/-- a set of texts at a, its table fit to be walked; M its members as they lie -/
structure TxSet (w : World) (h : Heap) (a : Addr) (M : List Str) : Prop where
  ex : ∃ (o : Obj) (es : Array (Int × Value)) (ep : Nat) (t : SetTable), (h.get? a = some o ∧ o.ExactSet ∧ o.data = .set es ep t) ∧ (∀ e ∈ es.toList, TxE w e) ∧ txts es = M ∧
    (es.size < scanBound ∧ t.fits es.size = true) ∧ Ris t.place.toList ∧ (w.params.followText "set-order" = true ∨ t.led = true)
  nd : M.Nodup
section
variable {P : Program} {w : World} {A : Around} {E : Value → Shared → Prop} {s : Shared} {a : Addr} {M : List Str} {h h' : Heap}
theorem TxSet.keep (R : TxSet w h a M) (k : ∀ o, h.get? a = some o → h'.get? a = some o) : TxSet w h' a M :=
  let ⟨⟨o, es, ep, t, ⟨h1, h2⟩, r⟩, n⟩ := R
  ⟨⟨o, es, ep, t, ⟨k o h1, h2⟩, r⟩, n⟩
theorem TxE.is {e : Int × Value} (g : TxE w e) (x : Str) : (PySem.strKind P w).is x e.2 = true ↔ txt e.2 = x := by
  obtain ⟨⟨tk, q⟩, _⟩ := g
  constructor
  · intro z
    rw [q] at z
    have z' : Value.isStrOf x (.str (txt e.2) tk) = true := z
    simpa [Value.isStrOf] using z'
  · intro z
    rw [q, ← z]
    have := strKind_is P w (txt e.2) tk
    exact this
theorem tx_elems {l : List (Int × Value)} (g : ∀ e ∈ l, TxE w e) : ElemsOf (PySem.strKind P w) l := fun e m => by
  have q := g e m
  refine ⟨⟨txt e.2, (q.is (P := P) (txt e.2)).2 rfl, q.2⟩, ?_⟩
  obtain ⟨⟨tk, z⟩, _⟩ := q
  rw [z]; rfl
theorem tx_put {o : Obj} {es es' : Array (Int × Value)} {ep : Nat} {t t' : SetTable} (ho : h.get? a = some o) (hd : o.data = .set es ep t) : (h.update a (Obj.putSet es' t')).get? a = some { o with data := .set es' (ep + 1) t' } := by
  rw [← putSet_of es' t' hd]
  exact Heap.get?_update_self (Obj.putSet es' t') ho (by rw [putSet_of es' t' hd]; rfl)
/-- the end of an addition: the new entries are stored, the table perhaps laid anew -/
theorem tx_tail {gv : Bool → Sem Unit} (hg : ∀ (b : Bool) (s₁ : Shared) (Q' : Unit → Shared → Prop), Q' () s₁ → wpAny (model P w) A (gv b) Q' E s₁) {o : Obj} {es es1 : Array (Int × Value)} {ep : Nat} {t t1 : SetTable}
    (ho : s.heap.get? a = some o ∧ o.ExactSet ∧ o.data = .set es ep t) (g1 : ∀ e ∈ es1.toList, TxE w e) (n1 : (txts es1).Nodup) (b1 : es1.size < scanBound ∧ t1.fits es1.size = true) (r1 : Ris t1.place.toList)
    (l1 : w.params.followText "set-order" = true ∨ t1.led = true) {dm : Bool} {R : Option Bool → Shared → Prop} (hR : ∀ h' M', Heap.SameBut a s.heap h' → TxSet w h' a M' → M'.Perm (txts es1) → R (some true) { s with heap := h' }) :
    wpAny (model P w) A (do storeSet a es1 t1
                            if (!dm && t1.tooFull) = true then do gv (relayAll t1 es1 (SetTable.grown es1.size)).2.2
                                                                  storeSet a (relayAll t1 es1 (SetTable.grown es1.size)).1 (relayAll t1 es1 (SetTable.grown es1.size)).2.1
                                                                  pure (some true)
                            else pure (some true)) R E s := by
  obtain ⟨h1, h2, h3⟩ := ho
  refine wpAny_bind (wpAny_storeSet_of h1 h3 ?_ (fits_of_scanBound b1.1))
  have k1 := tx_put (es' := es1) (t' := t1) h1 h3
  have sb := Heap.SameBut.update s.heap a (Obj.putSet es1 t1)
  split
  · have p2 := relayAll_perm t1 es1 (SetTable.grown es1.size)
    have f2 := relayAll_fits t1 es1 (SetTable.grown es1.size)
    have r2 := relayAll_ris t1 es1 (SetTable.grown es1.size)
    have l2 := relayAll_led t1 es1 (SetTable.grown es1.size)
    generalize relayAll t1 es1 (SetTable.grown es1.size) = Z at p2 f2 r2 l2 ⊢
    obtain ⟨es2, t2, gave⟩ := Z
    simp only at p2 f2 r2 l2 ⊢
    have z2 : es2.size = es1.size := by rw [← Array.length_toList, p2.length_eq, Array.length_toList]
    have b2 : es2.size < scanBound := by rw [z2]; exact b1.1
    have pm : (txts es2).Perm (txts es1) := p2.map _
    refine wpAny_bind (hg _ _ _ (wpAny_bind (wpAny_storeSet_of k1 rfl (wpAny_pure (hR _ (txts es2) (sb.trans (Heap.SameBut.update _ a _)) ?_ pm)) (fits_of_scanBound b2))))
    exact ⟨⟨_, es2, _, t2, ⟨tx_put k1 rfl, h2, rfl⟩, fun e m => g1 e (p2.mem_iff.mp m), rfl, ⟨b2, f2⟩, r2, l1.imp id fun z => by rw [l2]; exact z⟩, pm.nodup_iff.mpr n1⟩
  · exact wpAny_pure (hR _ (txts es1) sb ⟨⟨_, es1, _, t1, ⟨k1, h2, rfl⟩, g1, rfl, b1, r1, l1⟩, n1⟩ (List.Perm.refl _))
theorem tx_add {x : Str} {tk : Tok} {Q : Bool → Shared → Prop} (R : TxSet w s.heap a M) (room : M.length + 1 < scanBound)
    (hQ : ∀ b h' M', Heap.SameBut a s.heap h' → TxSet w h' a M' → (∀ y, y ∈ M' ↔ y ∈ M ∨ y = x) → M'.length ≤ M.length + 1 → Q b { s with heap := h' }) :
    wpAny (model P w) A (setAddHashed a (.str x tk) ((PySem.strKind P w).hash x)) Q E s := by
  obtain ⟨⟨o, es, ep, t, ho, g, em, ⟨hb, hf⟩, hr, hl⟩, nd⟩ := R
  subst em
  have kx := strKind_is P w x tk
  have sx : (Value.str x tk).scannable = true := rfl
  have el : ElemsOf (PySem.strKind P w) es.toList := tx_elems g
  have len : (txts es).length = es.size := by unfold txts; rw [List.length_map, Array.length_toList]
  (unfold setAddHashed setAddHashedIn; refine wpAny_holding (wpAny_bind (wpAny_setState_of ho.1 ho.2.2 hf ?_)); simp only)
  (rw [byScan_of sx hb el]; simp only [↓reduceIte]; unfold setAddByScan)
  refine wpAny_bind (wpAny_bind (wpAny_rule (wpAny_bind (wpAny_setScan_of kx ho.1 ho.2.2 hf el ?_))))
  cases hfi : List.findIdx? (fun e => (PySem.strKind P w).is x e.2) es.toList with
  | some j =>
    simp only
    obtain ⟨hj, pj, _⟩ := List.findIdx?_eq_some_iff_getElem.mp hfi
    have mx : x ∈ txts es := List.mem_map.mpr ⟨es.toList[j], List.getElem_mem hj, ((g _ (List.getElem_mem hj)).is (P := P) x).1 pj⟩
    refine wpAny_pure (wpAny_pure (hQ _ s.heap (txts es) (Heap.SameBut.refl a s.heap) ⟨⟨o, es, ep, t, ho, g, rfl, ⟨hb, hf⟩, hr, hl⟩, nd⟩ (fun y => ⟨.inl, fun z => z.elim id fun e => by rw [e]; exact mx⟩) (Nat.le_succ _)))
  | none =>
    simp only
    have nx : x ∉ txts es := fun m => by
      obtain ⟨e, me, q⟩ := List.mem_map.mp m
      have c := List.findIdx?_eq_none_iff.mp hfi e me
      rw [((g e me).is (P := P) x).2 q] at c
      cases c
    have gw : ∀ (b : Bool) {s₁ : Shared} {Q' : Unit → Shared → Prop}, Q' () s₁ → wpAny (model P w) A (match b with | true => rule "set.scan.the-table-gave-way" | false => pure ()) Q' E s₁ := fun b s₁ Q' q => by
      cases b
      · exact wpAny_pure q
      · exact wpAny_rule q
    have p1 := layNew_perm t es ((PySem.strKind P w).hash x) (.str x tk)
    have f1 := layNew_fits t es ((PySem.strKind P w).hash x) (.str x tk)
    have r1 := layNew_ris t es ((PySem.strKind P w).hash x) (.str x tk) hr
    have l1 := layNew_led t es ((PySem.strKind P w).hash x) (.str x tk)
    generalize layNew t es ((PySem.strKind P w).hash x) (.str x tk) = Z at p1 f1 r1 l1 ⊢
    obtain ⟨es1, t1, dm, gave⟩ := Z
    simp only at p1 f1 r1 l1 ⊢
    rw [Array.toList_push] at p1
    have pc : es1.toList.Perm (((PySem.strKind P w).hash x, Value.str x tk) :: es.toList) := p1.trans (List.perm_append_singleton _ _)
    have pk : (txts es1).Perm (x :: txts es) := pc.map (fun e : Int × Value => txt e.2)
    have g1 : ∀ e ∈ es1.toList, TxE w e := fun e m => by
      rcases List.mem_cons.mp (pc.mem_iff.mp m) with z | z
      · rw [z]; exact ⟨⟨tk, rfl⟩, rfl⟩
      · exact g e z
    have n1 : (txts es1).Nodup := pk.nodup_iff.mpr (List.nodup_cons.mpr ⟨nx, nd⟩)
    have len1 : (txts es1).length = es1.size := by unfold txts; rw [List.length_map, Array.length_toList]
    have z1 : es1.size = (txts es).length + 1 := by rw [← len1, pk.length_eq, List.length_cons]
    have b1 : es1.size < scanBound := by rw [z1]; exact room
    have led1 : w.params.followText "set-order" = true ∨ t1.led = true := hl.imp id fun z => by rw [l1]; exact z
    have fin : ∀ h' M', Heap.SameBut a s.heap h' → TxSet w h' a M' → M'.Perm (txts es1) → Q true { s with heap := h' } := fun h' M' sb r pm =>
      hQ true h' M' sb r (fun y => by rw [pm.mem_iff, pk.mem_iff, List.mem_cons]; exact Or.comm) (by rw [pm.length_eq, pk.length_eq, List.length_cons]; exact Nat.le_refl _)
    have gv : ∀ (b : Bool) (s₁ : Shared) (Q' : Unit → Shared → Prop), Q' () s₁ → wpAny (model P w) A (match b with | true => rule "set.scan.the-table-gave-way" | false => pure ()) Q' E s₁ := fun b s₁ Q' q => gw b q
    refine wpAny_bind (gw _ ?_)
    split
    · refine wpAny_bind ?_
      rw [hashByValue_scannable 8 sx]
      refine wpAny_pure (tx_tail ?_ ho g1 n1 ⟨b1, ?_⟩ ?_ ?_ ?_)
      · intro b s₁ Q' q; cases b <;> first | exact wpAny_pure q | exact wpAny_rule q
      · first | (split <;> first | exact f1 | exact SetTable.fits_plain_off f1) | exact f1
      · first | (split <;> exact r1) | exact r1
      · first | (split <;> exact led1) | exact led1
      · intro h' M' sb r pm; exact wpAny_pure (fin h' M' sb r pm)
    · refine wpAny_bind (wpAny_pure ?_)
      simp only [↓reduceIte]
      refine tx_tail ?_ ho g1 n1 ⟨b1, f1⟩ r1 led1 ?_
      · intro b s₁ Q' q; cases b <;> first | exact wpAny_pure q | exact wpAny_rule q
      · intro h' M' sb r pm; exact wpAny_pure (fin h' M' sb r pm)

/-- the texts of a walk go into the set at T, one after another -/
theorem tx_loop {Q0 : Result → Shared → Prop} {it : Addr} {fp wr : List Addr} {Gn : Array GenState → Array GenState → Prop} {n : Nat} {Pv : Nat → Value → Prop} {St : Nat → Shared → Prop} (W : WalksS P w A.in1 it fp wr Gn n Pv St)
    (T : Addr) (nT : T ∉ fp) (xs : List Str) (hn : n = xs.length) (hb : xs.length + 1 < scanBound) (val : ∀ i v, Pv i v → ∃ x t, xs[i]? = some x ∧ v = Value.str x t) : ∀ (k i : Nat) (s : Shared), n - i = k → i ≤ n → St i s →
      (∃ M, M.length ≤ i ∧ TxSet w s.heap T M ∧ ∀ y, y ∈ M ↔ y ∈ xs.take i) → (∀ s' M, Moved (T :: wr) Gn s s' → TxSet w s'.heap T M → (∀ y, y ∈ M ↔ y ∈ xs) → M.length ≤ n → Q0 (.ok (.ret .none)) s') →
      codeAny (model P w) A (.builtin "set.update.loop" ⟨[.ref T, .ref it], []⟩) Q0 s := by
  have nw : T ∉ wr := fun m => nT (W.sub _ m)
  have sub : ∀ b ∈ wr, b ∈ T :: wr := fun b m => List.mem_cons_of_mem _ m
  intro k
  induction k with
  | zero =>
    intro i s hk hi hst ⟨M, hM, hT, mem⟩ fin
    have ei : i = n := by omega
    subst ei
    refine codeAny_builtin PyProof.Rows.F.entry_set_update_loop ?_
    rw [Around.under_plainId PyProof.Rows.F.plain_set_update_loop _]
    show wpAny _ A.in1 (pyNext (.ref it) >>= _) _ _ s
    refine wpAny_bind (W.done s _ _ hst fun s' mv => ?_)
    show wpAny _ A.in1 (ret Value.none) _ _ s'
    rw [List.take_of_length_le (by omega)] at mem
    exact wpAny_pure (fin s' M (mv.mono sub) (hT.keep fun o e => mv.heap T o nw e) mem hM)
  | succ k ih =>
    intro i s hk hi hst ⟨M, hM, hT, mem⟩ fin
    have lt : i < n := by omega
    refine codeAny_builtin PyProof.Rows.F.entry_set_update_loop ?_
    rw [Around.under_plainId PyProof.Rows.F.plain_set_update_loop _]
    show wpAny _ A.in1 (pyNext (.ref it) >>= _) _ _ s
    refine wpAny_bind (W.item i s _ _ lt hst fun v s' hp hst' mv => ?_)
    obtain ⟨x, t, hx, rfl⟩ := val i v hp
    have hT' : TxSet w s'.heap T M := hT.keep fun o e => mv.heap T o nw e
    show wpAny _ A.in1 (holding [Value.str x t] (setAdd T (.str x t)) >>= _) _ _ s'
    (refine wpAny_bind (wpAny_holding ?_); unfold setAdd; refine wpAny_holding (wpAny_bind ((PySem.strKind P w).pyHash (k := x) (strKind_is _ _ _ _) ?_)))
    refine tx_add (s := { s' with toks := s'.toks + 1 }) hT' (by omega) fun b h' M' sb hT2 mem2 len2 => ?_
    refine wpAny_pure ⟨plainId_quiet PyProof.Rows.F.plain_set_update_loop _, ih (i + 1) _ (by omega) lt (W.frame _ s' _ _ hst' (Nat.le_succ _) fun b hb o e => ?_) ⟨M', by omega, hT2, fun y => ?_⟩ fun s'' M2 mv2 hT3 mem3 len3 => ?_⟩
    · rw [sb.2 b (fun z : b = T => nT (by rw [← z]; exact hb))]; exact e
    · rw [mem2 y, mem y, List.take_add_one, hx, List.mem_append]
      simp
    · refine fin s'' M2 (Moved.trans W.gtrans ((mv.mono sub).then_heap (Nat.le_succ _) fun b o hb e => ?_) mv2) hT3 mem3 len3
      rw [sb.2 b (fun z : b = T => hb (by rw [z]; exact List.mem_cons_self))]; exact e
end
end J

set_option maxHeartbeats 4000000
namespace J
open PySem PySem.Spec PyProof.Rows L2
section
variable {P : Program} {w : World} {A : Around} {E : Value → Shared → Prop} {s : Shared} {a : Addr} {M : List Str} {h h' : Heap}
abbrev newSet (w : World) : Obj := { cls := .type "set", dict := none, data := .set #[] 0 (.fresh 0 0 (!w.params.followText "set-order")) }
theorem tx_new (ho : h.get? a = some (newSet w)) : TxSet w h a [] :=
  ⟨⟨_, #[], 0, _, ⟨ho, ⟨rfl, rfl, rfl⟩, rfl⟩, (fun e m => by simp at m), rfl, ⟨by decide, rfl⟩, List.Pairwise.nil, by
    show _ ∨ (!w.params.followText "set-order") = true
    cases w.params.followText "set-order"
    · exact .inr rfl
    · exact .inl rfl⟩, List.nodup_nil⟩
set_option maxHeartbeats 8000000 in
/-- set(a list of texts) -/
theorem tx_call {l : Addr} {its : Array Value} (xs : List Str) {Q : Value → Shared → Prop} (hh : A.handled = none) (hl : s.heap.IsList l its) (hit : ∀ (i : Nat) (v : Value), its[i]? = some v → ∃ x t, xs[i]? = some x ∧ v = Value.str x t) (hz : its.size = xs.length)
    (hb : xs.length + 1 < scanBound) (k : ∀ (h' : Heap) (tk : Nat) (M : List Str), TxSet w h' s.heap.objs.size M → (∀ y, y ∈ M ↔ y ∈ xs) → M.length ≤ xs.length → (∀ b o, s.heap.get? b = some o → h'.get? b = some o) →
      Q (.ref s.heap.objs.size) { s with heap := h', toks := tk }) : wpAny (model P w) A (call (.type "set") [.ref l]) Q E s := by
  obtain ⟨c, tl, hmro⟩ := PySem.F.called_set.mro
  have made := PySem.F.called_set.made
  have sub := PySem.F.called_set.sub
  refine wpAny_call (codeAny_of_tree ?_)
  show wpAny _ _ (callAny (.type "set") _) _ _ _
  refine wpAny_pure ⟨Code.quiet_builtin _ (by decide +kernel), codeAny_builtin PySem.F.entry_type_call ?_⟩
  rw [Around.under_plain (weight_type_call_type "set" [.ref l] []) rfl]
  have c1 := PySem.F.called_set.notType
  have c2 := PySem.F.called_set.canCreate
  have c3 := PySem.F.typeCall_set_1 (.ref l)
  repeat (any_goals (first | assumption | wp_step))
  refine codeAny_mono (code_set_led1 (.ref l) (E := E) (Q₁ := fun ob s₁ => ob = .ref s.heap.objs.size ∧ s₁ = { s with heap := s.heap.push (newSet w) }) ⟨rfl, rfl⟩) fun r s₁ hr => ?_
  cases r with
  | error e => exact hr
  | ok fl =>
    cases fl with
    | ret ob =>
      obtain ⟨rfl, rfl⟩ := hr
      have hS : (s.heap.push (newSet w)).get? s.heap.objs.size = some (newSet w) := Heap.get?_push_size _ rfl
      have hT : Shared.TypeIs { s with heap := s.heap.push (newSet w) } (.ref s.heap.objs.size) "set" := ⟨_, hS, rfl⟩
      have i1 := PySem.F.called_set.init.lookup
      have i2 := PySem.F.called_set.init.bind (.ref s.heap.objs.size)
      repeat (any_goals (first | assumption | wp_step))
      refine codeAny_mono (codeAny_call_builtin (R := wants (fun r s₂ => r = .none ∧ ∃ h' tk M, s₂ = { s with heap := h', toks := tk } ∧ TxSet w h' s.heap.objs.size M ∧ (∀ y, y ∈ M ↔ y ∈ xs) ∧ M.length ≤ xs.length ∧ (∀ b o, s.heap.get? b = some o → h'.get? b = some o)) E)
        PySem.F.called_set.init.plain PySem.F.entry_set_init (check_set_init_1 hT ?_)) fun r₂ s₂ hr₂ => ?_
      · obtain ⟨ol, hol, hcl, nl, hdl⟩ := hl
        obtain ⟨ocls, odict, odata, osl⟩ := ol
        simp only at hcl hdl
        subst hcl; subst hdl
        have hol' : (s.heap.push (newSet w)).get? l = some { cls := .type "list", dict := odict, data := .seq its nl, slots := osl } := Heap.get?_push_of_some _ hol
        have s1 := PySem.F.sub_list_set
        have s2 := PySem.F.sub_list_frozenset
        have s3 : (Value.type "list" == Value.type "dict") = false := by decide
        have hl1 : (s.heap.push (newSet w)).IsList l its := ⟨_, hol', rfl, nl, rfl⟩
        unfold Builtin.«set.__init__» noKeywords Builtin.Frozenset.updateFrom
        generalize hPI : pyIter = PI
        wp_walk
        subst hPI
        refine wpAny_pyIter_list hl1 (wpAny_bind (wpAny_runValue ?_))
        have lS : l < s.heap.objs.size := Heap.lt_size hol
        have h3 : A.in1.in1.in1.handled = none := by simp [hh]
        have ne1 : l ≠ (s.heap.push (newSet w)).objs.size := by
          rw [Heap.size_push]; exact Nat.ne_of_lt (Nat.lt_succ_of_lt lS)
        have nf : s.heap.objs.size ∉ [(s.heap.push (newSet w)).objs.size, l] := by
          rw [Heap.size_push]; simp only [List.mem_cons, List.mem_singleton, List.not_mem_nil, or_false, not_or]
          exact ⟨Nat.ne_of_lt (Nat.lt_succ_self _), Nat.ne_of_gt lS⟩
        refine tx_loop ((Walks.list h3 _ l ne1 its).toS) s.heap.objs.size nf xs hz hb hit (its.size - 0) 0 _ (by omega) (Nat.zero_le _) ⟨⟨_, Heap.get?_push_size _ rfl, rfl, rfl⟩, (hl1.push _)⟩
          ⟨[], Nat.le_refl 0, tx_new (Heap.get?_push_of_some _ hS), fun y => by simp⟩ fun s' M mv hS' mem len => ?_
        obtain ⟨h', g2, d', tk', os'⟩ := s'
        have e1 : g2 = s.gens := mv.gens
        have e2 : d' = s.drawn := mv.drawn
        have e3 : os' = s.os := mv.os
        subst e1; subst e2; subst e3
        show wpAny _ _ _ _ _ _
        refine wpAny_pure ?_
        show wpAny _ _ (ret Value.none) _ _ _
        refine wpAny_pure ⟨rfl, h', tk', M, rfl, hS', mem, by rw [← hz]; exact len, fun b o e => ?_⟩
        have b0 : b < s.heap.objs.size := Heap.lt_size e
        have b2 : b ≠ (s.heap.push (newSet w)).objs.size := by
          rw [Heap.size_push]; exact Nat.ne_of_lt (Nat.lt_succ_of_lt b0)
        exact mv.heap b o (by simp only [List.mem_cons, List.mem_singleton, List.not_mem_nil, or_false, not_or]; exact ⟨Nat.ne_of_lt b0, b2⟩) (Heap.get?_push_of_some _ (Heap.get?_push_of_some _ e))
      · cases r₂ with
        | error e => exact hr₂
        | ok fl₂ =>
          cases fl₂ with
          | ret r =>
            obtain ⟨rfl, h', tk, M, rfl, hS', mem, len, hk'⟩ := hr₂
            repeat (any_goals (first | assumption | wp_step))
            exact k _ _ _ hS' mem len hk'
          | _ => exact hr₂.elim
    | _ => exact hr.elim
end
end J

set_option maxHeartbeats 4000000
namespace J
open PySem PySem.Spec PyProof.Rows L2

/-! ### the one order of texts -/
def sle (x y : Str) : Bool := !decide (y.cps.toList < x.cps.toList)
theorem str_ext {x y : Str} (h : x.cps.toList = y.cps.toList) : x = y := by
  obtain ⟨⟨a⟩⟩ := x
  obtain ⟨⟨b⟩⟩ := y
  have e : a = b := h
  rw [e]
theorem sle_trans (x y z : Str) (h1 : sle x y = true) (h2 : sle y z = true) : sle x z = true := by
  unfold sle at *
  simp only [Bool.not_eq_true', decide_eq_false_iff_not] at *
  intro h3
  by_cases q : y.cps.toList < x.cps.toList
  · exact h1 q
  · by_cases q2 : z.cps.toList < y.cps.toList
    · exact h2 q2
    · have a1 : x.cps.toList ≤ y.cps.toList := List.not_lt.mp q
      have a2 : y.cps.toList ≤ z.cps.toList := List.not_lt.mp q2
      exact absurd h3 (List.not_lt.mpr (List.le_trans a1 a2))
theorem sle_total (x y : Str) : (sle x y || sle y x) = true := by
  unfold sle
  by_cases q : y.cps.toList < x.cps.toList
  · have q2 : ¬ x.cps.toList < y.cps.toList := fun z => List.lt_irrefl _ (List.lt_trans q z)
    rw [decide_eq_true q, decide_eq_false q2]; rfl
  · rw [decide_eq_false q]; rfl
theorem sle_anti {x y : Str} (h1 : sle x y = true) (h2 : sle y x = true) : x = y := by
  unfold sle at *
  simp only [Bool.not_eq_true', decide_eq_false_iff_not] at *
  exact str_ext (List.le_antisymm (List.not_lt.mp h1) (List.not_lt.mp h2))
theorem rising_pw : ∀ (l : List Str) (p : Str), risingS p l = true → (p :: l).Pairwise fun a b => sle a b = true
  | [], p, _ => by simp
  | x :: r, p, h => by
    have h' : (!ltCps x.cps.toList p.cps.toList && risingS x r) = true := h
    rw [Bool.and_eq_true, ltCps_eq] at h'
    have ih := rising_pw r x h'.2
    refine List.pairwise_cons.mpr ⟨fun y m => ?_, ih⟩
    rcases List.mem_cons.mp m with e | m
    · rw [e]; exact h'.1
    · exact sle_trans p x y h'.1 ((List.pairwise_cons.mp ih).1 y m)
theorem sorted_pw : ∀ {l : List Str}, sortedS l = true → l.Pairwise fun a b => sle a b = true
  | [], _ => List.Pairwise.nil
  | x :: r, h => rising_pw r x h
/-- the texts in order -/
def srt (xs : List Str) : List Str := xs.mergeSort sle
theorem srt_perm (xs : List Str) : (srt xs).Perm xs := List.mergeSort_perm xs sle
theorem srt_only {xs ys : List Str} (p : ys.Perm xs) (h : sortedS ys = true) : ys = srt xs :=
  List.Perm.eq_of_pairwise (le := fun a b => sle a b = true) (fun a b _ _ h1 h2 => sle_anti h1 h2) (sorted_pw h) (List.pairwise_mergeSort sle_trans sle_total xs) (p.trans (srt_perm xs).symm)
/-- each once -/
def nub : List Str → List Str
  | [] => []
  | x :: r => if x ∈ nub r then nub r else x :: nub r
theorem nub_mem : ∀ {xs : List Str} {y : Str}, y ∈ nub xs ↔ y ∈ xs
  | [], y => Iff.rfl
  | x :: r, y => by
    unfold nub
    have ih := nub_mem (xs := r) (y := y)
    split
    · rename_i h
      rw [ih, List.mem_cons]
      exact ⟨.inr, fun z => z.elim (fun e => by rw [e]; exact nub_mem.mp h) id⟩
    · rw [List.mem_cons, List.mem_cons, ih]
theorem nub_nodup : ∀ xs : List Str, (nub xs).Nodup
  | [] => List.nodup_nil
  | x :: r => by
    unfold nub
    split
    · exact nub_nodup r
    · rename_i h
      exact List.nodup_cons.mpr ⟨h, nub_nodup r⟩
theorem nub_only {xs M : List Str} (nd : M.Nodup) (h : ∀ y, y ∈ M ↔ y ∈ xs) : M.Perm (nub xs) := (List.perm_ext_iff_of_nodup nd (nub_nodup xs)).mpr fun y => (h y).trans nub_mem.symm

/-! ### sorted of a list of texts -/
section
variable {K : PySem.W.Frag} {F F' F2 : Addr → Prop} {α α' α2 : List Addr} {H H' H2 : Hp} {S S' : Store} {v : V} {d : D} {ρ : Env} {ds : List D}
variable {X : Cx} {a b c e : Expr} {es : List Expr} {f g h : EX} {r : EL} {pos p p2 q2 : Pos} {x : Str}
def gSortedS : List D → Option (List D)
  | [.lst xs] => match strs? xs with | some ys => if ys.length < 64 then some ((srt ys).map .str) else none | none => none
  | _ => none
theorem sp_sortedS : SpCL K Θ (rSortedS K) gSortedS := by
  intro F α H S xs dxs d Q s rx e q
  unfold gSortedS at e
  split at e
  · split at e
    · split at e
      · rename_i ys ey hz
        cases e
        obtain ⟨v, rfl, r⟩ := rx.one
        obtain ⟨a, vs, rfl, ha, r1⟩ := r.seqL
        rw [strs_of r1 ey] at ha
        refine ⟨a, ys, rfl, ha, hz, fun zs p hp hs hn => ?_⟩
        rw [srt_only hp hs]
        exact PostL.lst q s (RpA.strs _) p hn
      · cases e
    · cases e
  · cases e

/-! ### .. of a set of texts -/
def TxO (w : World) (a : Addr) (M : List Str) : HO := .ext fun h => TxSet w h a M
def rSetTx (K : PySem.W.Frag) (w : World) : List V → Hp → VK → Prop := fun xs H Q => ∃ (l : Addr) (ys : List Str), xs = [V.ref l] ∧ SqL K H l (ys.map V.str) ∧ ys.length < 4000 ∧
  ∀ p M, H p = none → M.Perm (nub ys) → Q (.ref p) (upd H p (TxO w p M))
def rSortTx (w : World) : List V → Hp → VK → Prop := fun xs H Q => ∃ (a : Addr) (M : List Str), xs = [V.ref a] ∧ H a = some (TxO w a M) ∧ M.length < 64 ∧
  ∀ ys p, ys.Perm M → sortedS ys = true → H p = none → Q (.ref p) (upd H p (.lst (ys.map V.str)))
theorem strsAre_at : ∀ {us : List Value} {xs : List Str}, PyProof.Rows.StrsAre us xs → ∀ (i : Nat) (v : Value), us[i]? = some v → ∃ x t, xs[i]? = some x ∧ v = Value.str x t
  | _, _, .nil, i, v, h => by simp at h
  | _, _, .cons y t r, 0, v, h => by simp at h; exact ⟨y, t, by simp, h.symm⟩
  | _, _, .cons y t r, i + 1, v, h => by
    obtain ⟨x, u, e1, e2⟩ := strsAre_at r i v (by simpa using h)
    exact ⟨x, u, by simpa using e1, e2⟩
theorem cr_setTx (hc : X.calm = true) : CallR X (.type "set") (rSetTx X.K X.w) := by
  intro pins s σ H xs us Q I r h
  obtain ⟨l, ys, rfl, hl, hz, q⟩ := h
  obtain ⟨its, rv, pl, _⟩ := I.list hl
  rw [Vals.ref1 r]
  have hs := rv.strs
  have hlen : its.toArray.size = ys.length := by rw [List.size_toArray, ← rv.length, List.length_map]
  refine tx_call (its := its.toArray) ys (I.ok.hd hc) pl.isList (fun i v e => strsAre_at hs i v (by simpa using e)) hlen (by unfold scanBound; omega) fun h' tk M R mem len k => ?_
  have new : ObjOk X.prog X.w (upd H s.heap.objs.size (TxO X.w s.heap.objs.size M)) h' s.heap.objs.size (TxO X.w s.heap.objs.size M) := by
    refine ⟨R, ?_, fun h1 h2 z kk => z.keep kk⟩
    obtain ⟨o, _, _, _, ⟨e, _⟩, _⟩ := R.ex
    exact ⟨o, e⟩
  exact ⟨.ref s.heap.objs.size, _, I.laid (t' := tk) k (Nat.le_refl _) new, rfl, q _ M (I.hok.fresh (Nat.le_refl _)) (nub_only R.nd mem)⟩
end
end J

set_option maxHeartbeats 4000000
namespace J
open PySem PySem.Spec PyProof.Rows L2
section
variable {K : PySem.W.Frag} {F F' F2 : Addr → Prop} {α α' α2 : List Addr} {H H' H2 : Hp} {S S' : Store} {v : V} {d : D} {ρ : Env} {ds : List D}
variable {X : Cx} {a b c e : Expr} {es : List Expr} {f g h : EX} {r : EL} {pos p p2 q2 : Pos} {x : Str}
theorem laidD {pins : List (Addr × Obj)} {σ : List (Option V)} {s : Shared} {h' : Heap} {a : Addr} {o : HO} {t' : Nat} {d' : Drawn} (I : Inv X pins σ H s) (k : ∀ b u, s.heap.get? b = some u → h'.get? b = some u) (hp : s.heap.objs.size ≤ a) (new : ObjOk X.prog X.w (upd H a o) h' a o) :
    Inv X pins σ (upd H a o) { s with heap := h', drawn := d', toks := t' } := by
  have J := I.laid (t' := t') k hp new
  have n : H a = none := I.hok.fresh hp
  exact I.step (g' := s.gens) (d' := d') (t' := t') (ch := []) (fun _ z => nomatch z)
    (fun b o _ _ _ e _ => k b o e) (fun b o _ _ _ e _ => ⟨o.slots, k b o e⟩) (fun b o _ e n => by rw [upd_ne (Nat.ne_of_lt (Nat.lt_of_lt_of_le (Heap.lt_size e) hp))]; exact n)
    (fun b o _ e => ⟨o, k b o e⟩) (fun b xs e => by rw [upd_ne (ne_of_none e n)]; exact e) (fun b o u e => by rw [upd_ne (ne_of_none e n)]; exact e)
    (fun b ps e => ⟨#[], by rw [upd_ne (ne_of_none e n), e]; simp⟩) (fun m hm => by
      obtain ⟨o', es', ep', e1, e2⟩ := hm
      exact ⟨o', es', ep', k _ _ e1, e2⟩) J.hok I.bare
theorem strs_out : ∀ (l : List Value), (∀ v ∈ l, ∃ tk, v = .str (txt v) tk) → PyProof.Rows.StrsAre l (l.map txt)
  | [], _ => .nil
  | v :: l, h => by
    obtain ⟨tk, e⟩ := h v List.mem_cons_self
    rw [e]
    exact .cons _ tk (strs_out l fun u m => h u (List.mem_cons_of_mem _ m))
theorem cr_sortTx (hc : X.calm = true) : CallR X (.builtin "sorted") (rSortTx X.w) := by
  intro pins s σ H xs us Q I r h
  obtain ⟨a, M, rfl, ha, h64, q⟩ := h
  rw [Vals.ref1 r]
  have R : TxSet X.w s.heap a M := (I.hok a _ ha).1
  obtain ⟨⟨o, es, ep, t, ⟨ho, hex, hd⟩, g, em, ⟨hb, hf⟩, hr, hl⟩, nd⟩ := R
  have hM : M.length = es.size := by rw [← em]; unfold txts; rw [List.length_map, Array.length_toList]
  refine Calls.call_function_entry kind_sorted plain_sorted entry_sorted (args_sorted1 _) ?_
  unfold Builtin.«sorted»
  refine wpAny_bind (m := checkCount "sorted" 1 1 _) (wpAny_pure (wpAny_bind (collect_set (A := X.A.in1) (I.ok.hd hc) ⟨o, ho, hex.1, hd⟩ hf hb hr hl fun s1 vs k1 hz g1 o1 pm => ?_)))
  have hvl : vs.length = M.length := by rw [pm.length_eq, List.length_map, Array.length_toList, hM]
  have hS : PyProof.Rows.StrsAre vs (vs.map txt) := strs_out vs fun v m => by
    obtain ⟨e, me, z⟩ := List.mem_map.mp (pm.mem_iff.mp m)
    rw [← z]; exact (g e me).1
  have pk : (vs.map txt).Perm M := by
    have z := pm.map txt
    rw [List.map_map] at z
    rw [← em]; exact z
  refine wpAny_bind (wpAny_newList ?_ (by rw [hvl, sizeLine_eq]; omega))
  have hoL : (s1.heap.push (seqObj "list" vs.toArray 0)).get? s1.heap.objs.size = some (seqObj "list" vs.toArray 0) := Heap.get?_push_size _ rfl
  refine wpAny_bind (wpAny_holding (wpAny_call_entry slot_list_sort ⟨_, hoL, rfl⟩ entry_list_sort (list_sort_treeK strKind_oneLt hoL hS.keysOf (fun v₁ v₂ rest e => keyKind_strs (by rw [← e]; exact hS)) (by rw [hvl]; exact h64) fun st' hp hs => ⟨_, rfl, ?_⟩) (args_list_sort _)))
  obtain ⟨ys, h1, h2, h3⟩ := sorted_out_str hS hp hs
  obtain ⟨c, hc'⟩ := sortedHeap_at (vs := vs) (out := (arrOf st').map (·.2)) hoL
  have old : ∀ b u, s.heap.get? b = some u → (sortedHeap (s1.heap.push (seqObj "list" vs.toArray 0)) s1.heap.objs.size vs ((arrOf st').map (·.2))).get? b = some u := fun b u e => by
    have z := k1 b u e
    have lt := Heap.lt_size z
    rw [sortedHeap_old (Nat.ne_of_lt lt) (by rw [size_push']; exact Nat.lt_succ_of_lt lt)]
    exact Heap.get?_push_of_some _ z
  have pM : ys.Perm M := h2.trans pk
  have hlen : (ys.map V.str).length ≤ sizeLine := by rw [List.length_map, pM.length_eq, sizeLine_eq]; omega
  obtain ⟨hp1, gg, dd, tt, oo⟩ := s1
  have eg : gg = s.gens := g1
  have eo : oo = s.os := o1
  subst eg eo
  refine wpAny_pure ⟨_, rfl, .ref hp1.objs.size, upd H hp1.objs.size (.lst (ys.map V.str)), ?_, rfl, q ys _ pM h3 (I.hok.fresh hz)⟩
  dsimp only at old hc' ⊢
  revert old hc'
  generalize sortedHeap (hp1.push (seqObj "list" vs.toArray 0)) hp1.objs.size vs ((arrOf st').map (·.2)) = G
  intro hc' old
  exact laidD (s := s) (a := hp1.objs.size) (o := .lst (ys.map V.str)) (h' := G) (t' := tt) (d' := dd) I old hz ⟨hlen, ((arrOf st').map (·.2)).toList, c, vals_of_strs h1, hc'⟩
end
end J

set_option maxHeartbeats 4000000
namespace J
open PySem PySem.Spec PyProof.Rows L2
section
variable {K : PySem.W.Frag} {F F' F2 : Addr → Prop} {α α' α2 : List Addr} {H H' H2 : Hp} {S S' : Store} {v : V} {d : D} {ρ : Env} {ds : List D}
variable {X : Cx} {a b c e : Expr} {es : List Expr} {f g h : EX} {r : EL} {pos p p2 q2 : Pos} {x : Str}
theorem nub_len : ∀ xs : List Str, (nub xs).length ≤ xs.length
  | [] => Nat.le_refl _
  | x :: r => by
    have ih := nub_len r
    unfold nub
    split <;> simp only [List.length_cons] <;> omega
/-- sorted(set(xs)) -/
def lSortedSet (f : EX) : EL := fun ρ S => match f ρ S with
  | some (.lst xs, S1) => (match strs? xs with | some ys => if ys.length < 4000 ∧ (nub ys).length < 64 then some ((srt (nub ys)).map .str, S1) else none | none => none)
  | _ => none
theorem j_sortedSet {nm : Pos} (hc : X.calm = true) (g1 : Gl X "sorted") (m1 : X.mg "sorted" = none) (g2 : Gl X "set") (m2 : X.mg "set" = none) (q : PE X a (tW X.K Θ f)) (h1 : starEach [(.Call (.Name "set" p) [a] [] pos : Expr)] X.env = (false, eval (.Call (.Name "set" p) [a] [] pos) X.env) :: starEach [] X.env := by rfl)
    (h2 : starEach [a] X.env = (false, eval a X.env) :: starEach [] X.env := by rfl) :
    PE X (.Call (.Name "sorted" nm) [.Call (.Name "set" p) [a] [] pos] [] p2) (tL X.K Θ (lSortedSet f)) := by
  have q1 := pe_callTy (pos := pos) (p := p) (cr_setTx hc) g2 m2 (by decide +kernel) (pa_cons q pa_nil h2) (by decide) (by decide) h2 (by rfl)
  refine pe_weak (pe_callB (pos := p2) (p := nm) (cr_sortTx hc) g1 m1 (by decide +kernel) (pa_cons q1 pa_nil h1) (by decide) (by decide) h1 (by rfl)) fun σ H Q ⟨F, α, ρ, S, ds, S', h1, h2, h3, k⟩ => ?_
  unfold lSortedSet at h3
  split at h3
  · rename_i xs S1 e1
    split at h3
    · rename_i ys ez
      split at h3
      · rename_i hz
        cases h3
        refine ⟨F, α, ρ, S, _, _, h1, h2, e1, fun v F1 α1 H1 st1 hs1 rv => ?_⟩
        obtain ⟨l, vs, rfl, hl, r1⟩ := rv.seqL
        rw [strs_of r1 ez] at hl
        refine ⟨l, ys, rfl, hl, hz.1, fun p M hp pm => ?_⟩
        have lm : M.length < 64 := by
          have := pm.length_eq
          have := hz.2
          omega
        refine ⟨p, M, rfl, by rw [upd_same], lm, fun zs p2 pz sz hp2 => ?_⟩
        have st2 := Step.new (o := TxO X.w p M) hs1 hp
        have hs2 : StR X.K Θ F1 α1 (upd H1 p (TxO X.w p M)) S' := hs1.new hp
        rw [srt_only (pz.trans pm) sz]
        exact PostL.lst (fun a vs F' α' H' st' hs hn nf hl r => k a vs F' α' H' ((st1.trans st2).trans st') hs ((st1.trans st2).back hn) nf hl r) hs2 (RpA.strs _) p2 hp2
      · cases h3
    · cases h3
  · cases h3
/-! ### t[::-1] of a tuple -/
theorem adjust_rev (n : Nat) : Builtin.Slice.sliceAdjust none none (-1) (n : Int) = ((n : Int) - 1, -1) := by
  unfold Builtin.Slice.sliceAdjust
  simp
theorem fm_some {α β : Type} (g : α → Option β) (h : α → β) : ∀ l : List α, (∀ m ∈ l, g m = some (h m)) → l.filterMap g = l.map h
  | [], _ => rfl
  | x :: l, e => by rw [List.filterMap_cons, e x List.mem_cons_self]; simp only [List.map_cons]; rw [fm_some g h l fun m q => e m (List.mem_cons_of_mem _ q)]
theorem rev_pick (xs : Array Value) : ((List.range xs.size).filterMap fun (m : Nat) => xs[((xs.size : Int) - 1 + (m : Int) * (-1)).toNat]?).toArray = xs.toList.reverse.toArray := by
  congr 1
  rw [fm_some (fun (m : Nat) => xs[((xs.size : Int) - 1 + (m : Int) * (-1)).toNat]?) (fun m => xs.toList.reverse.getD m .none) _ fun m hm => ?_]
  · apply List.ext_getElem
    · simp
    · intro i h1 h2
      simp at h1 ⊢
      have l2 : xs.size - 1 - i < xs.size := by omega
      simp [h1, l2, List.getD_eq_getElem?_getD]
  · have lt := List.mem_range.mp hm
    have q : ((xs.size : Int) - 1 + (m : Int) * (-1)).toNat = xs.size - 1 - m := by omega
    have l2 : xs.size - 1 - m < xs.size := by omega
    show xs[((xs.size : Int) - 1 + (m : Int) * (-1)).toNat]? = _
    rw [q, List.getD_eq_getElem?_getD, List.getElem?_reverse (by simpa using lt)]
    simp [l2]
theorem places_rev (n : Nat) : Builtin.Slice.slicePlaces ((n : Int) - 1) (-1) (-1) = n := by
  unfold Builtin.Slice.slicePlaces
  have h1 : ¬ ((-1 : Int) > 0) := by omega
  have h2 : (-(-1 : Int)) = 1 := rfl
  simp only [h1, if_false, h2, Int.ediv_one]
  split <;> omega
section
variable {prog : Program} {w : World} {A : Around} {E : Value → Shared → Prop} {s : Shared}
theorem applied_rev {sl : Addr} {vl vu vs : Value} {n : Nat} {Q : Int × Int × Nat → Shared → Prop} (hs : s.heap.IsSliceOf sl vl vu vs) (pl : IsPart vl none) (pu : IsPart vu none) (ps : IsPart vs (some (-1)))
    (h : Q ((n : Int) - 1, -1, n) s) : wpAny (model prog w) A (Builtin.Slice.sliceApplied (.ref sl) (pure (n : Int))) Q E s := by
  obtain ⟨os, hos, hcs, hds⟩ := id hs
  unfold Builtin.Slice.sliceApplied Builtin.Slice.sliceFields
  refine wpAny_bind (wpAny_bind (wpAny_field hos hds (x := vl) rfl (wpAny_bind (wpAny_field hos hds (x := vu) rfl (wpAny_bind (wpAny_field hos hds (x := vs) rfl (wpAny_pure ?_)))))))
  refine wpAny_bind (HT.slicePart_ ps ?_)
  show wpAny _ _ (if ((-1 : Int) == 0) = true then _ else _) _ _ s
  rw [if_neg (by decide)]
  refine wpAny_bind (HT.slicePart_ pl (wpAny_bind (HT.slicePart_ pu (wpAny_bind (wpAny_pure ?_)))))
  show wpAny _ _ (match Builtin.Slice.sliceAdjust none none (-1) (n : Int) with | (lo, hi) => pure (lo, (-1 : Int), Builtin.Slice.slicePlaces lo hi (-1))) _ _ s
  rw [adjust_rev n]
  show wpAny _ _ (pure ((n : Int) - 1, (-1 : Int), Builtin.Slice.slicePlaces ((n : Int) - 1) (-1) (-1))) _ _ s
  rw [places_rev]
  exact wpAny_pure h
theorem getTup_rev {t sl : Addr} {items : Array Value} {vl vu vs : Value} {Q : Value → Shared → Prop} (ht : IsTup s.heap t items) (hs : s.heap.IsSliceOf sl vl vu vs) (pl : IsPart vl none) (pu : IsPart vu none) (ps : IsPart vs (some (-1)))
    (h : Q (.ref s.heap.objs.size) { s with heap := s.heap.push { cls := .type "tuple", data := .seq items.toList.reverse.toArray } })
    (hsz : items.size ≤ sizeLine) : wpAny (model prog w) A (getItem (.ref t) (.ref sl)) Q E s := by
  obtain ⟨os, hos, hcs, hds⟩ := id hs
  have hTs : s.TypeIs (.ref sl) "slice" := ⟨os, hos, hcs⟩
  unfold getItem
  try with_reducible refine wpAny_holding ?_
  first | refine wpAny_bind (wpAny_pure ?_) | skip
  refine wpAny_bind (wpAny_sequenceKey ht.typeIs (by decide) ?_)
  refine wpAny_bind (wpAny_callSpecial?_slot (name := Str.ofString "__getitem__") ht.typeIs PyProof.Rows.slot_tuple_getitem
    (wpAny_call_entry PyProof.Rows.slot_tuple_getitem ht.typeIs entry_tuple_getitem ?_ (args_tuple_getitem _ _)))
  show wpAny _ _ (Builtin.Tuple.tupleItemsOf (.ref t) >>= _) _ _ s
  refine wpAny_bind (tupleItemsOf_ ht ?_)
  refine wpAny_bind (wpAny_typeOf hTs ?_)
  rw [if_pos (by decide)]
  refine wpAny_bind (applied_rev hs pl pu ps ?_)
  show wpAny _ _ (if (((items.size : Int) - 1 == 0 && (-1 : Int) == 1 && items.size == items.size) = true) then _ else _) _ _ s
  rw [if_neg (by rw [show ((-1 : Int) == 1) = false from rfl]; simp), rev_pick]
  have htake : sizeOk (.seq items.toList.reverse.toArray) := by
    show items.toList.reverse.toArray.size ≤ sizeLine
    simpa using hsz
  first
    | exact wpAny_bind (m := Builtin.Tuple.tupleExact _) (wpAny_newObj_type (wpAny_pure ⟨_, rfl, wpAny_pure h⟩) htake)
    | exact wpAny_bind (m := Builtin.Tuple.tupleExact _) (wpAny_newObj_type (wpAny_bind (wpAny_pure (wpAny_pure ⟨_, rfl, wpAny_pure h⟩))) htake)
    | exact wpAny_bind (wpAny_bind (m := Builtin.Tuple.tupleExact _) (wpAny_newObj_type (wpAny_pure (wpAny_pure ⟨_, rfl, wpAny_pure h⟩)) htake))
    | exact wpAny_bind (wpAny_bind (m := Builtin.Tuple.tupleExact _) (wpAny_newObj_type (wpAny_pure ⟨_, rfl, wpAny_pure h⟩) htake))
end
/-- t[::-1] -/
def eRev (f : EX) : EX := fun ρ S => match f ρ S with | some (.tup x, S1) => some (.tup x.reverse, S1) | _ => none
theorem j_revT {k : Nat} {p1 p2 p3 : Pos} (he : PE X a (tW X.K Θ f)) : PE X (.Subscript a (.Slice none none (some (.UnaryOp .USub (.Constant (.int 1) k p1) p2)) p3) pos) (tV X.K Θ (eRev f)) := by
  refine pe_weak (t := fun σ H Q => tW X.K Θ f σ H fun x H1 => ∃ a xs, x = .ref a ∧ SqT X.K H1 a xs ∧ ∀ p, H1 p = none → Q (.ref p) (upd H1 p (.tup xs.reverse))) ⟨fun pins s σ H Q I h => ?_⟩ fun σ H Q ⟨F, α, ρ, S, d, S', h1, h2, h3, kk⟩ => ?_
  · refine Subscript_ (thn (he.run pins s σ H _ I h) fun v s1 ⟨x, H1, I1, r1, q1⟩ => ?_)
    obtain ⟨a, xs, ex, hx, q⟩ := q1
    subst ex
    cases r1
    have hst : PO X (some (.UnaryOp .USub (.Constant (.int 1) k p1) p2)) (tPart (tUn (rU fun i => .int (-i)) (tC (.int 1)))) := po_some (pe_un un_neg pe_int)
    refine wpAny_Slice (thn (po_none.run pins s1 σ H1 (fun o H2 => o = none ∧ H2 = H1) I1 ⟨rfl, rfl⟩) fun vl s2 ⟨l, H2, I2, pl, el, e2⟩ => ?_)
    subst el e2
    refine thn (po_none.run pins s2 σ H2 (fun o H3 => o = none ∧ H3 = H2) I2 ⟨rfl, rfl⟩) fun vu s3 ⟨u, H3, I3, pu, eu, e3⟩ => ?_
    subst eu e3
    refine thn (hst.run pins s3 σ H3 (fun o H4 => o = some (-1) ∧ H4 = H3) I3 ⟨1, rfl, -1, rfl, rfl, rfl⟩) fun vs s4 ⟨o, H4, I4, ps, eo, e4⟩ => ?_
    subst eo e4
    have I5 : Inv X pins σ H4 { s4 with heap := s4.heap.push { cls := .type "slice", data := .fields #[vl, vu, vs] } } := I4.kept (t' := s4.toks) fun b ob q => Heap.get?_push_of_some _ q
    obtain ⟨its, r, ht, hz⟩ := I5.tuple hx
    have hlen := r.length
    show wpAny (model X.prog X.w) X.A (subscriptTail _ _ (.ref a) (.ref s4.heap.objs.size)) (EP X pins σ Q) X.xe { s4 with heap := s4.heap.push { cls := .type "slice", data := .fields #[vl, vu, vs] } }
    refine tail_any (ops := [.ref a, .ref s4.heap.objs.size]) ht.typeIs (PyProof.Rows.slot_tuple_getitem.lookup) ?_ (by with_unfolding_all rfl)
    refine getTup_rev ht (Heap.IsSliceOf.new _ vl vu vs) pl pu ps ?_ (by rw [List.size_toArray]; omega)
    refine ⟨.ref _, _, I5.laid (t' := s4.toks) (o := .tup xs.reverse) (fun b ob q => Heap.get?_push_of_some _ q) (Nat.le_refl _) ?_, rfl, q _ (I5.hok.fresh (Nat.le_refl _))⟩
    exact ⟨by rw [List.length_reverse]; exact hz, _, r.reverse, IsTup.new _ _⟩
  · unfold eRev at h3
    split at h3
    · rename_i x S1 e1
      cases h3
      refine ⟨F, α, ρ, S, _, _, h1, h2, e1, fun v F1 α1 H1 st1 hs1 rv => ?_⟩
      obtain ⟨b, vs, rfl, ha, r1⟩ := rv.seqT
      exact ⟨b, vs, rfl, ha, Post.tup (fun v F' α' H' st' hs r => kk v F' α' H' (st1.trans st') hs r) hs1 r1.reverse⟩
    · cases h3
end
end J

set_option maxHeartbeats 4000000
namespace J
open PySem PySem.Spec PyProof.Rows L2
/-! ### a def that calls itself: nothing is said of it without fuel -/
def gNone : GS := fun _ _ => none
theorem does_zero {P : Program} {w : World} {K : PySem.W.Frag} {mg : Str → Option Value} {base : Heap} {x qual : Str} {st : Stmt} {N ps : List Str} {k : Nat} (hh : Here K mg x qual st ps) (Sc : FnScope N ps (defScope st)) : Does P w K Θ mg base (k + 1) x ps (runDef N.length gNone) :=
  does_of hh Sc fun fa cdv A outer s H E F0 α0 hr => ⟨fun pins s σ H D I ⟨F, α, ρ, S, o, S', h1, h2, h3⟩ => by cases h2⟩
end J

set_option maxHeartbeats 4000000
namespace J
open PySem PySem.Spec PyProof.Rows L2
/-! ### the law's end -/
theorem law_sp {K : PySem.W.Frag} {Θ : TL} {H : Hp} {a : Addr} {ns : List Int} {f : FN} (hS : SqL K H a (ns.map V.int)) (hT : LamX.Tabs Θ H) (t : ∃ S', f [.frz (ns.map D.int)] [] = some (.bl true, S')) : spF K Θ f 1 [.ref a] H (fun v _ => v = .bl true) fun _ _ _ => False := by
  obtain ⟨S', e⟩ := t
  refine ⟨rfl, fun b => b = a ∧ ∃ xs, H a = some (.lst xs), [], [], [.frz (ns.map D.int)], .bl true, S', ⟨rfl, List.nodup_nil, fun b z q => ?_, hT, fun n a z => by simp at z⟩, .cons (.frz ?_ (ints_ ns)) .nil, e, fun v F' α' H' _ _ r => by cases r; rfl⟩
  · obtain ⟨rfl, xs, h⟩ := z
    exact q.no h
  · rcases hS with (h | h) | h
    · exact .inr (.inl ⟨⟨rfl, _, h⟩, h⟩)
    · exact .inl h
    · exact .inr (.inr h)
where ints_ : ∀ ns : List Int, RpA K (fun b => b = a ∧ ∃ xs, H a = some (.lst xs)) [] H (ns.map V.int) (ns.map D.int)
  | [] => .nil
  | x :: r => .cons (.int x) (ints_ r)
end J

set_option maxHeartbeats 4000000
namespace J
open PySem PySem.Spec PyProof.Rows L2
/-! ### an own error that keeps two fields -/
/-- __init__(self, f, g): self.f = f; self.g = g, on a fresh exception of the class at C -/
def spI2 (C : Addr) (f g : Str) : Sp := fun vs H Q _ => ∃ a w t, vs = [.ref a, w, t] ∧ H a = some (exo a C none) ∧ ∀ dx, H dx = none → dx ≠ a → Q .non (upd (upd (upd H dx (exd dx [(f, w)])) a (exo a C (some dx))) dx (exd dx [(g, t), (f, w)]))
def tI2 (K : PySem.W.Frag) (f g : Str) : TS := tSeq (tOst K f (tVar 0) (tVar 1)) (tOst K g (tVar 0) (tVar 2))
theorem init2_ok {P : Program} {w : World} {K : PySem.W.Frag} {mg : Str → Option Value} {base : Heap} {x qual : Str} {params : Arguments} {body : List Stmt} {scope : Scope} {fa : Addr} {fd : FuncData} {C : Addr} {f g : Str} (Fn : FunD K x qual params body scope [] [] fa fd) (Sc : FnScope ["self", f, g] ["self", f, g] scope)
    (T : OexC K C) (n1 : PySem.W.findIn K (.ref C) f = some none) (n2 : PySem.W.findIn K (.ref C) g = some none)
    (hb : ∀ (cdv : Value) (A : Around) (outer : List PySem.Env) (s : Shared) (H : Hp) (E : XK), PSs (cxOf CX0 P w K mg base ["self", f, g] qual scope fa cdv A outer s H E).nox body (tI2 K f g)) :
    FnOk P w K mg base CX0 1 fa fd ["self", f, g] (spI2 C f g) := by
  refine Fn.ok Sc (fun vs H Q E h => ?_) fun cdv A outer s H vs Q E hr h => ⟨_, PSs.nox (hb cdv A outer s H E), ?_⟩
  · obtain ⟨a, w, t, rfl, _⟩ := h; rfl
  · obtain ⟨a, u, t, rfl, ha, q⟩ := h
    refine ⟨u, rfl, .ref a, rfl, a, C, rfl, T, n1, .inl ⟨ha, fun dx hn ne => ?_⟩⟩
    exact ⟨t, rfl, .ref a, rfl, a, C, rfl, T, n2, .inr ⟨dx, [(f, u)], upd_same, by rw [upd_ne ne, upd_same], by simp, q dx hn ne⟩⟩
/-- C(e1, e2): its dict d is new, all else stands -/
def tMk2 (C : Addr) (f g : Str) (ta : TA) : L2.St → Hp → XK → Prop := fun σ H Q => ta σ H fun vs H1 => ∃ w t, vs = [w, t] ∧ ∀ d H', H1 d = none → H' d = some (.xd [(g, t), (f, w)]) → (∀ b, b ≠ d → H' b = H1 b) → Q (.ref C) (some d) H'
theorem pmk2 {X : Cx} {x : Str} {C fI : Addr} {k : Nat} {fd : FuncData} {e1 e2 : Expr} {r : EL} {f g : Str} {p pos : Pos} (T : OexC X.K C) (iC : PySem.W.findIn X.K (.ref C) "__init__" = some (some (.ref fI))) (tI : PySem.W.typeIn X.K (.ref fI) = some (.type "function"))
    (F1 : FnOk X.prog X.w X.K X.mg X.base CX0 k fI fd ["self", f, g] (spI2 C f g)) (hr : Room (k + 1) X.A) (hb : Binds X.K fd ["self", f, g] []) (hg : Gl X x) (hm : X.mg x = some (.ref C)) (ha : PA X [e1, e2] (tVs X.K Θ r)) (hdb : (x == ("__debug__" : Str)) = false := by decide)
    (he : starEach [e1, e2] X.env = (false, eval e1 X.env) :: starEach [e2] X.env := by rfl) (hpl : (backTo pos (starEach [e2] X.env)).any (·.1) = false := by rfl) :
    PMk X (.Call (.Name x p) [e1, e2] [] pos) (tMk2 C f g (tVs X.K Θ r)) := by
  have R := pmk_oex (p := p) (pos := pos) T iC tI F1 hr hb .nil (fun pins σ H s e s' I z => False.elim z) hg hm ha hdb he hpl
  intro pins s σ H Q I h
  refine R pins s σ H Q I ?_
  obtain ⟨F, α, ρ, S, ds, S', h1, h2, h3, kk⟩ := h
  refine ⟨F, α, ρ, S, ds, S', h1, h2, h3, fun vs F' α' H1 st hs ra => ?_⟩
  obtain ⟨w, t, rfl, q⟩ := kk vs F' α' H1 st hs ra
  refine ⟨by simp, fun a na => ⟨a, w, t, rfl, upd_same, fun dx hn ne => ⟨rfl, dx, [(g, t), (f, w)], ?_, upd_same, ?_, ?_⟩⟩⟩
  · rw [upd_ne (Ne.symm ne), upd_same]
  · rw [upd_ne ne] at hn; exact hn
  · rw [upd_ne ne] at hn
    refine q dx _ hn upd_same fun b hb => ?_
    rw [upd_ne hb]
    by_cases hba : b = a
    · rw [hba, del_same, na]
    · rw [del_ne hba, upd_ne hb, upd_ne hba, upd_ne hb, upd_ne hba]
/-- an own error class of two fields, its __init__ at hand -/
def OwnE (P : Program) (w : World) (K : PySem.W.Frag) (mg : Str → Option Value) (base : Heap) (c f g : Str) : Prop := ∃ C fI fd, OexC K C ∧ PySem.W.findIn K (.ref C) "__init__" = some (some (.ref fI)) ∧ PySem.W.typeIn K (.ref fI) = some (.type "function") ∧
  FnOk P w K mg base CX0 1 fI fd ["self", f, g] (spI2 C f g) ∧ Binds K fd ["self", f, g] [] ∧ mg c = some (.ref C)

section
variable {ξ : XE} {K : PySem.W.Frag} {F0 F F' F2 : Addr → Prop} {α0 α α' α2 : List Addr} {H0 H H' H2 : Hp} {S S' S2 : Store} {v : V} {d : D} {ρ ρ' : Env} {ds : List D} {σ σ' : L2.St} {D' : Ends} {o : Out}
variable {X : Cx} {a b c e tg : Expr} {es : List Expr} {f h : EX} {r l : EL} {pos p pos2 : Pos} {x : Str} {st : Stmt} {rest body : List Stmt} {g g1 g2 : GS} {E : XK}
def sRaise (c f g : Str) (r : EL) : GS := fun ρ S => match r ρ S with
  | some ([u, v], S1) => some (.ex c [(g, v), (f, u)], S1)
  | _ => none
theorem j_raise2 {c f g : Str} {n : Nat} (T : OwnE X.prog X.w X.K X.mg X.base c f g) (hr : Room n X.A) (h2 : 2 ≤ n) (hc : X.calm = true) (tk : Takes X (fun cls d _ H => E cls d H)) (hg : Gl X c) (ha : PA X [a, b] (tVs X.K Θ r)) (hdb : (c == ("__debug__" : Str)) = false := by decide)
    (he : starEach [a, b] X.env = (false, eval a X.env) :: starEach [b] X.env := by rfl) (hpl : (backTo pos (starEach [b] X.env)).any (·.1) = false := by rfl) :
    PS X (.Raise (some (.Call (.Name c p) [a, b] [] pos)) none pos2) (tS X.K Θ ⟨X.mg, E⟩ F0 α0 H0 (sRaise c f g r)) := by
  obtain ⟨C, fI, fd, T1, iC, tI, F1, hb, hm⟩ := T
  refine ps_weak (ps_raise hc tk (pmk2 (f := f) (g := g) T1 iC tI F1 (hr.mono h2) hb hg hm ha hdb he hpl)) fun D σ H ⟨F, α, ρ, S, o, S', A, e, k⟩ => ?_
  unfold sRaise at e
  split at e
  · rename_i u v S1 e1
    cases e
    refine ⟨F, α, ρ, S, _, _, A.sr, A.en, e1, fun vs F1 α1 H1 st1 hs1 ra => ?_⟩
    cases ra with
    | @cons vu _ _ _ ru ra => cases ra with
      | @cons vv _ _ _ rv ra =>
        cases ra
        refine ⟨_, _, rfl, fun d H' hd hH hk => ?_⟩
        have eH : H' = upd H1 d (.xd [(g, vv), (f, vu)]) := by
          funext b
          by_cases hb : b = d
          · rw [hb, hH, upd_same]
          · rw [hk b hb, upd_ne hb]
        subst eH
        have st2 : Step F1 α1 H1 F1 α1 (upd H1 d (.xd [(g, vv), (f, vu)])) := Step.new hs1 hd
        exact k (.ref C) (some d) F1 α1 (upd H1 d (.xd [(g, vv), (f, vu)])) ((A.st.trans st1).trans st2) (hs1.new hd) ⟨C, d, _, hm, rfl, rfl, upd_same, .cons ⟨rfl, rv.mono hs1 st2⟩ (.cons ⟨rfl, ru.mono hs1 st2⟩ .nil)⟩
  · cases e

/-! ### what may raise -/
def tR (K : PySem.W.Frag) (Θ : TL) (ξ : XE) (f : ER) : TE := fun σ H Q => ∃ F α ρ S r S', StR K Θ F α H S ∧ EnR K F α H σ ρ ∧ f ρ S = some (r, S') ∧ RsOk K Θ ξ F α H S' Q r
theorem RsOk.mono {Q : VK} {r : Rs} (t : Step F α H F' α' H') (q : RsOk K Θ ξ F α H S' Q r) : RsOk K Θ ξ F' α' H' S' Q r := by
  cases r with
  | ok d => exact fun v F2 α2 H2 st => q v F2 α2 H2 (t.trans st)
  | ex c o => exact fun cls d F2 α2 H2 st => q cls d F2 α2 H2 (t.trans st)
def DoesX (P : Program) (w : World) (K : PySem.W.Frag) (Θ : TL) (mg : Str → Option Value) (base : Heap) (k : Nat) (x : Str) (ps : List Str) (G : FNX) : Prop :=
  ∃ f fd, FnOk P w K mg base (L2.CX P w) k f fd ps (spX K Θ mg G ps.length) ∧ mg x = some (.ref f) ∧ PySem.W.keepIn K (.ref f) = true ∧ Binds K fd ps []
def eCallX (G : FNX) (r : EL) : ER := fun ρ S => match r ρ S with | some (ds, S1) => G ds S1 | none => none
theorem j_callX {G : FNX} {k n : Nat} {ps : List Str} (dd : DoesX X.prog X.w X.K Θ X.mg X.base k x ps G) (tk : Takes X (fun cls d _ H => E cls d H)) (hr : Room n X.A) (hkn : k ≤ n) (hg : Gl X x) (q : PA X (a :: es) (tVs X.K Θ r)) (hl : ∀ ρ S ds S', r ρ S = some (ds, S') → ds.length = (a :: es).length) (hps : ps.length = (a :: es).length)
    (hdb : (x == ("__debug__" : Str)) = false := by decide) (he : starEach (a :: es) X.env = (false, eval a X.env) :: starEach es X.env := by rfl) (hpl : (backTo pos (starEach es X.env)).any (·.1) = false := by rfl) :
    PE X (.Call (.Name x p) (a :: es) [] pos) (tR X.K Θ ⟨X.mg, E⟩ (eCallX G r)) := by
  obtain ⟨f, fd, F, hm, hk, hb⟩ := dd
  rw [hps] at F
  refine pe_weak (pe_callS (E := fun _ => E) F (hr.mono hkn) hg hm hk hb (fun σ => passAt tk σ) q hdb he hpl) fun σ H Q ⟨F, α, ρ, S, rr, S', h1, h2, h3, k⟩ => ?_
  unfold eCallX at h3
  split at h3
  · rename_i ds S1 e1
    exact ⟨F, α, ρ, S, ds, S1, h1, h2, e1, fun vs F1 α1 H1 st1 hs1 ra => ⟨by rw [ra.length]; exact hl _ _ _ _ e1, F1, α1, S1, ds, rr, S', hs1, ra, h3, k.mono st1⟩⟩
  · cases h3
/-- where it raises nothing -/
def eOk (f : ER) : EX := fun ρ S => match f ρ S with | some (.ok d, S') => some (d, S') | _ => none
theorem j_ok {f : ER} (raw : PE X e (tR X.K Θ ⟨X.mg, fun _ _ _ => False⟩ f)) : PE X e (tV X.K Θ (eOk f)) := pe_weak raw fun σ H Q ⟨F, α, ρ, S, d, S', h1, h2, h3, k⟩ => by
  unfold eOk at h3
  split at h3
  · rename_i d1 S1 e1
    cases h3
    exact ⟨F, α, ρ, S, _, _, h1, h2, e1, k⟩
  · cases h3
def sDropX (f : ER) : GS := fun ρ S => match f ρ S with | some (.ok _, S1) => some (.nx ρ, S1) | some (.ex c o, S1) => some (.ex c o, S1) | none => none
theorem j_dropX {f : ER} (raw : PS X st (tDrop (tR X.K Θ ξ f))) : PS X st (tS X.K Θ ξ F0 α0 H0 (sDropX f)) := ps_weak raw fun D σ H ⟨F, α, ρ, S, o, S', A, e, k⟩ => by
  unfold sDropX at e
  split at e
  · rename_i x S1 e1
    cases e
    exact ⟨F, α, ρ, S, _, _, A.sr, A.en, e1, fun v F1 α1 H1 st1 hs1 rv => k σ F1 α1 H1 st1.w (A.mono st1 hs1)⟩
  · rename_i c o S1 e1
    cases e
    exact ⟨F, α, ρ, S, _, _, A.sr, A.en, e1, fun cls d F1 α1 H1 st1 hs1 x => k cls d F1 α1 H1 (A.st.trans st1) hs1 x⟩
  · cases e
def sSetX (f : ER) (bd : BD) : GS := fun ρ S => match f ρ S with | some (.ok x, S1) => (match bd x ρ with | some ρ1 => some (.nx ρ1, S1) | none => none) | some (.ex c o, S1) => some (.ex c o, S1) | none => none
theorem j_asgX {f : ER} {gt : TG} {bd : BD} {vs : List Nat} (sg : SpG X.K Θ gt bd vs) (raw : PS X st (tAsg (tR X.K Θ ξ f) gt)) : PS X st (tS X.K Θ ξ F0 α0 H0 (sSetX f bd)) := ps_weak raw fun D σ H ⟨F, α, ρ, S, o, S', A, e, k⟩ => by
  unfold sSetX at e
  split at e
  · rename_i x S1 e1
    split at e
    · rename_i ρ1 e2
      cases e
      exact ⟨F, α, ρ, S, _, _, A.sr, A.en, e1, fun v F1 α1 H1 st1 hs1 rv => sg F1 α1 H1 _ σ ρ v x ρ1 _ hs1 (A.en.mono A.sr st1) rv e2 fun σ' en' _ ow => k σ' F1 α1 H1 st1.w (At.bind (A1 := A.mono st1 hs1) en' ow)⟩
    · cases e
  · rename_i c o S1 e1
    cases e
    exact ⟨F, α, ρ, S, _, _, A.sr, A.en, e1, fun cls d F1 α1 H1 st1 hs1 x => k cls d F1 α1 H1 (A.st.trans st1) hs1 x⟩
  · cases e
def sRetX (f : ER) : GS := fun ρ S => match f ρ S with | some (.ok x, S1) => some (.rt x, S1) | some (.ex c o, S1) => some (.ex c o, S1) | none => none
theorem j_retX {f : ER} (q : PE X a (tR X.K Θ ξ f)) : PS X (.Return (some a) pos) (tS X.K Θ ξ F0 α0 H0 (sRetX f)) := ps_weak (ps_ret q) fun D σ H ⟨F, α, ρ, S, o, S', A, e, k⟩ => by
  unfold sRetX at e
  split at e
  · rename_i x S1 e1
    cases e
    exact ⟨F, α, ρ, S, _, _, A.sr, A.en, e1, fun v F1 α1 H1 st1 hs1 rv => k v F1 α1 H1 (A.st.trans st1) hs1 rv⟩
  · rename_i c o S1 e1
    cases e
    exact ⟨F, α, ρ, S, _, _, A.sr, A.en, e1, fun cls d F1 α1 H1 st1 hs1 x => k cls d F1 α1 H1 (A.st.trans st1) hs1 x⟩
  · cases e
/-- a statement that no run meets -/
def sNo : GS := fun _ _ => none
theorem j_no : PS X st (tS X.K Θ ξ F0 α0 H0 sNo) := ⟨fun pins s σ H D I ⟨F, α, ρ, S, o, S', A, e, k⟩ => by cases e⟩
end
end J

set_option maxHeartbeats 4000000
namespace J
open PySem PySem.Spec PyProof.Rows L2 LamX
/-! ### heard(lambda: f(..)): try: return (w1, ask()) / except C as e: return (w2, e.f, e.g) -/
def TTheard (C : Addr) (w1 w2 f g : Str) : (XK → Hp → VK → Prop) → Hp → VK → Prop := fun tl H Q =>
  tl (fun cls d H' => cls = .ref C ∧ ∃ dd fs u v, d = some dd ∧ H' dd = some (.xd fs) ∧ fs.lookup f = some u ∧ fs.lookup g = some v ∧ ∀ p, H' p = none → Q (.ref p) (upd H' p (.tup [.str w2, u, v]))) H
    (fun v H' => [V.str w1, v].length ≤ sizeLine ∧ ∀ p, H' p = none → Q (.ref p) (upd H' p (.tup [.str w1, v])))
theorem two_line : (2 : Nat) ≤ sizeLine := by rw [sizeLine_eq]; decide
theorem three_line : (3 : Nat) ≤ sizeLine := by rw [sizeLine_eq]; decide
theorem heard_gives {X : Cx} {x a e ec q w1 w2 f1 f2 : Str} {sg : Scope} {g CS : Addr} {cdg : Value} {j1 j2 j3 j4 : Nat} {p1 p2 p3 p4 p5 p6 p7 p8 p9 q1 q2 q3 q4 q5 q6 : Pos}
    (hge : sg.names.lookup ec = some .globalImplicit) (hme : X.mg ec = some (.ref CS)) (hde : (ec == ("__debug__" : Str)) = false) (hnd : [a, e].Nodup) (hva : sg.names.lookup e = some .local) (he1 : (e == ("__debug__" : Str)) = false) (he2 : (e == ("__classdict__" : Str)) = false)
    (T : XfC X.K CS) (n1 : PySem.W.findIn X.K (.ref CS) f1 = some none) (n2 : PySem.W.findIn X.K (.ref CS) f2 = some none) (te : PySem.W.exmOne X.K (.ref CS) (.ref CS) = some true) :
    GivesTo X [a, e] x sg g cdg [.Try [.Return (some (.Tuple [.Constant (.str w1) j1 p1, .Call (.Name a p2) [] [] p3] j2 p4)) p5]
      [.ExceptHandler (some (.Name ec p6)) (some e) [.Return (some (.Tuple [.Constant (.str w2) j3 p7, .Attribute (.Name e p8) f1 p9, .Attribute (.Name e q1) f2 q2] j4 q3)) q4] q5] [] [] q6] a q (TTheard CS w1 w2 f1 f2) := by
  intro f c' s H Q tl act hc h
  have hgl : Gl (cxOf C8.CX0 X.prog X.w X.K X.mg X.base [a, e] x sg g cdg X.A X.stack s H C8.E0).nox ec := hge
  refine ⟨_, pss_one (ps_try_as (X := (cxOf C8.CX0 X.prog X.w X.K X.mg X.base [a, e] x sg g cdg X.A X.stack s H C8.E0).nox) (c := .ref CS) (i := 1)
      (tb := fun W D σ H => ∃ Ech : XK, (∀ cls d (σ' : L2.St) H', σ'.length = 2 → Ech cls d H' → W cls d σ' H') ∧ σ = L2.start [a, e] [V.ref f] ∧ H c' = some (CodeO c' q) ∧ tl Ech H (fun v H' => [V.str w1, v].length ≤ sizeLine ∧ ∀ p, H' p = none → D.rt (.ref p) (upd H' p (.tup [.str w1, v]))))
      (ts := fun b cls d => tRet (tTup (tCons (tC (.str w2)) (tCons (tXf b cls d CS f1 (tVar 1)) (tCons (tXf b cls d CS f2 (tVar 1)) tNil)))))
      rfl rfl hnd rfl hva ⟨hgl, hde, .inl hme⟩ L2.takes0 (fun W pn xe tk _ => ?_) (fun b oe cls d pn hz hf => pss_one (ps_ret (pe_tup (pa_cons pe_str (pa_cons (pe_xf T n1 hz hf (pe_var (i := 1) rfl (.inl hva) he1 he2)) (pa_cons (pe_xf T n2 hz hf (pe_var (i := 1) rfl (.inl hva) he1 he2)) pa_nil))))))), ?_⟩
  · refine ⟨fun pins s' σ H' D I h' => ?_⟩
    obtain ⟨Ech, hW, h1, h2, h3⟩ := h'
    have tk0 : Takes ((cxOf C8.CX0 X.prog X.w X.K X.mg X.base [a, e] x sg g cdg X.A X.stack s H C8.E0).nox.tr pn xe) (fun cls d σ H => σ.length = 2 → W cls d σ H) := fun u s' ⟨a1, B, sI, pins, σ, H, cls, d, e1, I, nb, up, sky, na, os, ag, w⟩ =>
      tk u s' ⟨a1, B, sI, pins, σ, H, cls, d, e1, I, nb, up, sky, na, os, ag, w I.len⟩
    have hp := act (fun cls d σ H => σ.length = 2 → W cls d σ H) pn xe Ech p2 p3 tk0 fun cls d σ' H' hx hl => hW cls d σ' H' hl hx
    refine (pss_one (ps_ret (pe_tup (pa_cons pe_str (pa_cons hp pa_nil))))).run pins s' σ H' D I ⟨by rw [h1]; rfl, h2, h3⟩
  · refine ⟨fun cls d H' => cls = .ref CS ∧ ∃ dd fs u v, d = some dd ∧ H' dd = some (.xd fs) ∧ fs.lookup f1 = some u ∧ fs.lookup f2 = some v ∧ ∀ p, H' p = none → Q (.ref p) (upd H' p (.tup [.str w2, u, v])), fun cls d σ' H' hl hx => ?_, rfl, hc, h⟩
    obtain ⟨rfl, dd, fs, u, v, rfl, hd, l1, l2, k⟩ := hx
    refine ⟨true, te, fun _ b hb => ?_, fun z => by cases z⟩
    have hs : (σ'.set 1 (some (V.ref b)))[1]? = some (some (V.ref b)) := List.getElem?_set_self (by omega)
    refine ⟨_, hs, rfl, rfl, dd, fs, u, rfl, hd, l1, ?_⟩
    refine ⟨_, hs, rfl, rfl, dd, fs, v, rfl, hd, l2, three_line, fun p hp => k p hp⟩
end J

set_option maxHeartbeats 4000000
namespace J
open PySem PySem.Spec PyProof.Rows L2 LamX
section
variable {ξ : XE} {K : PySem.W.Frag} {F0 F F' F2 : Addr → Prop} {α0 α α' α2 : List Addr} {H0 H H' H2 : Hp} {S S' S2 : Store} {v : V} {d : D} {ρ ρ' : Env} {ds : List D} {σ σ' : L2.St} {D' : Ends} {o : Out}
variable {X : Cx} {a b c e tg : Expr} {es : List Expr} {f h : EX} {r l : EL} {pos p pos2 lpos : Pos} {x : Str} {st : Stmt} {rest body : List Stmt} {g g1 g2 : GS} {E : XK}
/-- a lambda is made: all but the tables stays -/
theorem StR.lam (s : StR K Θ F α H S) (e : ExtN H H') (t : Tabs Θ H') : Step F α H F α H' ∧ StR K Θ F α H' S := by
  have st : Step F α H F α H' := ⟨fun _ h => h, fun _ h => .inl h, ⟨[], by simp, fun _ h => by simp at h⟩, fun a o h nt _ => e a o h nt, fun a m => by
    obtain ⟨kvs, q⟩ := s.at m
    exact ⟨kvs, e a _ q fun _ z => by cases z⟩⟩
  refine ⟨st, s.len, s.nd, fun a f q => s.fa a f (st.back q), t, fun n a q => ?_⟩
  obtain ⟨kvs, o, h1, h2, h3⟩ := s.ob n a q
  exact ⟨kvs, o, h1, e a _ h2 (fun _ z => by cases z), pairedImp h3 fun _ _ z => ⟨z.1, z.2.mono s st⟩⟩
def eHeard (c w1 w2 f1 f2 : Str) (fb : ER) : EX := fun ρ S => match fb ρ S with
  | some (.ok d, S') => some (.tup [.str w1, d], S')
  | some (.ex c' [(g2, dv), (g1, du)], S') => if c' = c ∧ g2 = f2 ∧ g1 = f1 then some (.tup [.str w2, du, dv], S') else none
  | _ => none
theorem heard_imp {Θ : TL} {mg : Str → Option Value} {C : Addr} {c w1 w2 f1 f2 : Str} {fb : ER} (hm : mg c = some (.ref C)) (hf : f1 ≠ f2) {σ : L2.St} {H : Hp} {Q : VK} (q : tV K Θ (eHeard c w1 w2 f1 f2 fb) σ H Q) :
    tLam Θ (TTheard C w1 w2 f1 f2) (fun E => tR K Θ ⟨mg, E⟩ fb) σ H Q := by
  obtain ⟨F, α, ρ, S, d, S', h1, h2, h3, k⟩ := q
  refine ⟨h1.tb, fun H1 e1 t1 => ?_⟩
  obtain ⟨st0, hs0⟩ := h1.lam e1 t1
  unfold eHeard at h3
  split at h3
  · rename_i d1 S1 e2
    cases h3
    refine ⟨F, α, ρ, S, _, _, hs0, h2.mono h1 st0, e2, fun v F' α' H' st hs rv => ⟨two_line, fun p hp => ?_⟩⟩
    have sn : Step F' α' H' F' α' (upd H' p (.tup [.str w1, v])) := Step.new hs hp
    exact k (.ref p) F' α' (upd H' p (.tup [.str w1, v])) ((st0.trans st).trans sn) (hs.new hp) (.tup upd_same (.cons (.str _) (.cons (rv.mono hs sn) .nil)))
  · rename_i c' g2 dv g1 du S1 e2
    split at h3
    · rename_i hc
      obtain ⟨rfl, rfl, rfl⟩ := hc
      cases h3
      refine ⟨F, α, ρ, S, _, _, hs0, h2.mono h1 st0, e2, fun cls dd F' α' H' st hs x => ?_⟩
      obtain ⟨C', d', fs, m1, rfl, rfl, hd, pr⟩ := x
      have m1 : mg c' = some (.ref C') := m1
      rw [hm] at m1
      cases m1
      cases pr with
      | @cons p1 _ fs1 _ r1 pr => cases pr with
        | @cons p2 _ fs2 _ r2 pr =>
          cases pr
          obtain ⟨k1, v1⟩ := p1
          obtain ⟨k2, v2⟩ := p2
          obtain ⟨y1, r1⟩ := r1
          obtain ⟨y2, r2⟩ := r2
          dsimp only at y1 y2 r1 r2
          subst y1 y2
          have n12 : (k2 == k1) = false := by simpa using hf
          refine ⟨rfl, d', _, v2, v1, rfl, hd, ?_, ?_, fun p hp => ?_⟩
          · simp [List.lookup, n12]
          · simp [List.lookup]
          · have sn : Step F' α' H' F' α' (upd H' p (.tup [.str w2, v2, v1])) := Step.new hs hp
            exact k (.ref p) F' α' (upd H' p (.tup [.str w2, v2, v1])) ((st0.trans st).trans sn) (hs.new hp) (.tup upd_same (.cons (.str _) (.cons (r2.mono hs sn) (.cons (r1.mono hs sn) .nil))))
    · cases h3
  · cases h3
/-- the def that is told what to ask -/
structure HeardD (K : PySem.W.Frag) (mg : Str → Option Value) (x : Str) (a : Str) (st : Stmt) (g : Addr) : Prop where
  hm : mg x = some (.ref g)
  hk : PySem.W.keepIn K (.ref g) = true
  lk : ∃ (oc : Value) (od : Option Addr) (kV doc pm : Value) (an : Option Addr) (cdv ct : Value) (osl : Array (Option Value)), K.lookup g = some ⟨oc, od, .func (PySem.W.fnOf x x (defArgs st) (defBody st) (defScope st) .none kV doc pm an cdv ct), osl⟩ ∧ PySem.W.codeIn K cdv x = true
structure HeardE (K : PySem.W.Frag) (mg : Str → Option Value) (c f1 f2 : Str) (CS : Addr) : Prop where
  hm : mg c = some (.ref CS)
  xf : XfC K CS
  n1 : PySem.W.findIn K (.ref CS) f1 = some none
  n2 : PySem.W.findIn K (.ref CS) f2 = some none
  te : PySem.W.exmOne K (.ref CS) (.ref CS) = some true
theorem j_heard {Θ : TL} {e ec w1 w2 f1 f2 an : Str} {params : Arguments} {bd : Expr} {scope : Scope} {stg : Stmt} {g CS cc P : Addr} {k n : Nat} {fb : ER} {j1 j2 j3 j4 : Nat} {p1 p2 p3 p4 p5 p6 p7 p8 p9 q1 q2 q3 q4 q5 q6 : Pos}
    (G : HeardD X.K X.mg x an stg g) (T : HeardE X.K X.mg ec f1 f2 CS) (hf : f1 ≠ f2) (hg : Gl X x)
    (hbi : ∀ (kV doc pm : Value) (ann : Option Addr) (cdv ct : Value) (us : List Value), us.length = 1 → bindArgs (PySem.W.fnOf x x (defArgs stg) (defBody stg) (defScope stg) .none kV doc pm ann cdv ct) ⟨us, []⟩ = pure ([an].zip us))
    (Sg : FnScope [an, e] [an] (defScope stg)) (hva : Vis (defScope stg) an)
    (hge : (defScope stg).names.lookup ec = some .globalImplicit) (hde : (ec == ("__debug__" : Str)) = false) (hnd : [an, e].Nodup) (hve : (defScope stg).names.lookup e = some .local) (he1 : (e == ("__debug__" : Str)) = false) (he2 : (e == ("__classdict__" : Str)) = false)
    (hbody : defBody stg = [.Try [.Return (some (.Tuple [.Constant (.str w1) j1 p1, .Call (.Name an p2) [] [] p3] j2 p4)) p5]
      [.ExceptHandler (some (.Name ec p6)) (some e) [.Return (some (.Tuple [.Constant (.str w2) j3 p7, .Attribute (.Name e p8) f1 p9, .Attribute (.Name e q1) f2 q2] j4 q3)) q4] q5] [] [] q6])
    (TB : TabB X.base X.mg cc P) (hcode : X.env.code = .ref cc) (hmT : (P, X.env.qual ++ "<lambda>") ∈ Θ) (hu : ∀ p ∈ Θ, p.1 = P → p.2 = X.env.qual ++ "<lambda>") (hr : Room n X.A) (hkn : k + 2 ≤ n) (L : LamS X.env.scope scope) (hdef : defaultsOf params X.env = ([], []))
    (hbind : ∀ (q : Str) (cl : List (Str × Addr)) (pm cv ctv : Value), bindArgs (PySem.W.kla_fn "<lambda>" q params bd scope cl pm cv ctv) ⟨[], []⟩ = pure [])
    (hb : ∀ (A : Around) (outer : List PySem.Env) (s : Shared) (H : Hp) (E : XK) (f c' : Addr), Room k (A.deeper (lamEnv X scope s.heap.objs.size f c')) → PE (lamCx X A outer s H E scope f c') bd (tR X.K Θ ⟨X.mg, E⟩ fb))
    (hdb : (x == ("__debug__" : Str)) = false := by decide) (hd : (an == ("__debug__" : Str)) = false := by decide) (hcd : (an == ("__classdict__" : Str)) = false := by decide) :
    PE X (.Call (.Name x p) [.Lambda params bd scope lpos] [] pos) (tV X.K Θ (eHeard ec w1 w2 f1 f2 fb)) := by
  obtain ⟨oc, od, kV, doc, pm, ann, cdv, ct, osl, lk, hcg⟩ := G.lk
  refine pe_weak (pe_lamcall (t := fun E => tR X.K Θ ⟨X.mg, E⟩ fb) (TT := TTheard CS w1 w2 f1 f2) hg G.hm G.hk lk hcg (.all (hbi kV doc pm ann cdv ct)) Sg rfl hva ?_ TB hcode hmT hu (hr.mono hkn) L hdef hbind hb hdb hd hcd) fun σ H Q q => heard_imp T.hm hf q
  rw [hbody]
  exact heard_gives hge T.hm hde hnd hve he1 he2 T.xf T.n1 T.n2 T.te
end
end J

set_option maxHeartbeats 4000000
namespace J
open PySem PySem.Spec PyProof.Rows L2
theorem extend_tup (l : Addr) (its : Array Value) (n : Nat) (b : Addr) (od : Option Addr) (sl : Array (Option Value)) (its2 : Array Value) (n2 : Nat) (hs0 : ¬(!its.isEmpty && Builtin.List.listTooLong (its.size + its2.size)) = true) (hs1 : its.size ≤ sizeLine) (hs2 : (its ++ its2).size ≤ sizeLine + 1) :
    Meets (Builtin.«list.extend» ⟨[.ref l, .ref b], []⟩) (fun _ R s => s.heap.get? l = some { cls := .type "list", dict := none, data := .seq its n, slots := #[] } ∧ s.heap.get? b = some { cls := .type "tuple", dict := od, data := .seq its2 n2, slots := sl } ∧ R (.ok (.ret Value.none)) { s with heap := s.heap.update l (Obj.mapSeq fun x => x ++ its2), toks := s.toks }) := by
  refine .of_wp fun prog w A R s h => ?_
  obtain ⟨hp, g, d, tk, os⟩ := s
  obtain ⟨hl, hb, h⟩ := h
  have q1 := AutoSeq1.idx_int
  have q2 := AutoSeq1.sub_tuple_tuple
  have q3 := AutoSeq1.sub_list_list
  have q4 := AutoSeq1.sub_tuple_list
  have q5 := AutoSeq1.sub_list_tuple
  wp_walk using (wpAny_updateSeq hl rfl (hz := hs1) (_hz' := hs2)), wpAny_loadPart' hl, wpAny_loadPart' hb
  exact ⟨_, rfl, h⟩
section
variable {ξ : XE} {K : PySem.W.Frag} {F0 F F' F2 F1 : Addr → Prop} {α0 α α' α2 α1 : List Addr} {H0 H H' H2 H1 : Hp} {S S' S2 S1 : Store} {v : V} {d : D} {ρ ρ' : Env} {ds : List D} {σ σ' : L2.St} {D' : Ends} {o : Out}
variable {X : Cx} {a b c e tg : Expr} {es : List Expr} {f h : EX} {r l : EL} {pos p pos2 lpos : Pos} {x : Str} {st : Stmt} {rest body : List Stmt} {g g1 g2 : GS} {E : XK}
/-! ### while -/
/-- at most n turns -/
def whileGo (t : ET) (body : GS) : Nat → GS
  | 0, _, _ => none
  | n + 1, ρ, S => match t ρ S with
    | some (true, S1) => (match body ρ S1 with
      | some (.nx ρ2, S2) => whileGo t body n ρ2 S2
      | some (.ct ρ2, S2) => whileGo t body n ρ2 S2
      | some (.bk ρ2, S2) => some (.nx ρ2, S2)
      | some (.rt d, S2) => some (.rt d, S2)
      | some (.ex c o, S2) => some (.ex c o, S2)
      | none => none)
    | some (false, S1) => some (.nx ρ, S1)
    | none => none
def WhW (K : PySem.W.Frag) (Θ : TL) (ξ : XE) (F0 : Addr → Prop) (α0 : List Addr) (H0 : Hp) (Fs : Addr → Prop) (αs : List Addr) (Hs : Hp) (S' : Store) (D : Ends) (t : ET) (body : GS) (o : Out) : Nat → L2.St → Hp → Prop := fun m σ H =>
  ∃ F α ρ S, StepW Fs αs Hs F α H ∧ At K Θ F0 α0 H0 F α H σ ρ S ∧ whileGo t body m ρ S = some (o, S') ∧ EndOk K Θ ξ F0 α0 H0 F α H S' D o
theorem j_while {t : ET} {n : Nat} (raw : PS X st (tWhile (tT X.K Θ t) (tS X.K Θ ξ F0 α0 H0 g))) : PS X st (tS X.K Θ ξ F0 α0 H0 (whileGo t g n)) := ps_weak raw fun D σ H ⟨F, α, ρ, S, o, S', A, e, k⟩ => by
  refine ⟨WhW X.K Θ ξ F0 α0 H0 F α H S' D t g o, ⟨n, F, α, ρ, S, StepW.refl, A, e, k⟩, ?_⟩
  rintro m σ2 H2 ⟨F2, α2, ρ2, S2, sw2, A2, hgo, k2⟩
  cases m with
  | zero => cases hgo
  | succ m =>
    unfold whileGo at hgo
    split at hgo
    · rename_i S3 e3
      refine ⟨F2, α2, ρ2, S2, _, _, A2.sr, A2.en, e3, fun F3 α3 H3 st3 hs3 => iteT ?_⟩
      have A3 := A2.mono st3 hs3
      refine ⟨fun σ' H' => ∃ m', m' < m + 1 ∧ WhW X.K Θ ξ F0 α0 H0 F α H S' D t g o m' σ' H', fun σ' H' q => q, ?_⟩
      have sw3 : StepW F α H F3 α3 H3 := sw2.trans st3.w
      split at hgo
      · rename_i ρ5 S5 e5
        exact ⟨F3, α3, ρ2, S3, _, _, A3, e5, fun σ6 F6 α6 H6 sw6 A6 => ⟨m, Nat.lt_succ_self m, F6, α6, ρ5, S5, sw3.trans sw6, A6, hgo, k2.mono (st3.w.trans sw6)⟩⟩
      · rename_i ρ5 S5 e5
        exact ⟨F3, α3, ρ2, S3, _, _, A3, e5, fun σ6 F6 α6 H6 sw6 A6 => ⟨m, Nat.lt_succ_self m, F6, α6, ρ5, S5, sw3.trans sw6, A6, hgo, k2.mono (st3.w.trans sw6)⟩⟩
      · rename_i ρ5 S5 e5
        cases hgo
        exact ⟨F3, α3, ρ2, S3, _, _, A3, e5, fun σ6 F6 α6 H6 sw6 A6 => k2 σ6 F6 α6 H6 (st3.w.trans sw6) A6⟩
      · rename_i d5 S5 e5
        cases hgo
        exact ⟨F3, α3, ρ2, S3, _, _, A3, e5, k2⟩
      · rename_i c5 o5 S5 e5
        cases hgo
        exact ⟨F3, α3, ρ2, S3, _, _, A3, e5, k2⟩
      · cases hgo
    · rename_i S3 e3
      cases hgo
      refine ⟨F2, α2, ρ2, S2, _, _, A2.sr, A2.en, e3, fun F3 α3 H3 st3 hs3 => iteF ?_⟩
      exact k2 σ2 F3 α3 H3 st3.w (A2.mono st3 hs3)
    · cases hgo

/-! ### x += e, of ints -/
def sAug (op : Int → Int → Int) (i : Nat) (f : EX) : GS := fun ρ S => match ρ[i]? with
  | some (.d (.int a)) => (match f ρ S with | some (.int b, S1) => some (.nx (ρ.set i (.d (.int (op a b)))), S1) | _ => none)
  | _ => none
theorem j_aug {op : Int → Int → Int} {i : Nat} (raw : PS X st (tAug i (tV X.K Θ f) (ipI op))) : PS X st (tS X.K Θ ξ F0 α0 H0 (sAug op i f)) := ps_weak raw fun D σ H ⟨F, α, ρ, S, o, S', A, e, k⟩ => by
  unfold sAug at e
  split at e
  · rename_i a hi
    split at e
    · rename_i b S1 e1
      cases e
      obtain ⟨v, hv, rv⟩ := A.en.sl i _ hi
      cases rv
      refine ⟨_, hv, F, α, ρ, S, _, _, A.sr, A.en, e1, fun w F1 α1 H1 st1 hs1 rw => ?_⟩
      cases rw
      refine ⟨a, b, rfl, rfl, k _ F1 α1 H1 st1.w ?_⟩
      have A1 := A.mono st1 hs1
      exact At.bind (A1 := A1) (A1.en.set i (.int _)) OwnSub.set
    · cases e
  · cases e

/-! ### x = xs.pop() -/
def sPop (i j : Nat) : GS := fun ρ S => match ρ[j]? with
  | some (.own xs) => (match xs.getLast? with | some x => some (.nx ((ρ.set j (.own xs.dropLast)).set i (.d x)), S) | none => none)
  | _ => none
theorem RpA.dropLast : ∀ {vs : List V} {ds : List D}, RpA K F α H vs ds → RpA K F α H vs.dropLast ds.dropLast := fun {vs ds} r => by
  rw [List.dropLast_eq_take, List.dropLast_eq_take, r.length]
  exact r.take _
theorem j_pop {i j : Nat} (raw : PS X st (tAsg (tBM0 X.K "list" rPop (tVar j)) (gName i))) : PS X st (tS X.K Θ ξ F0 α0 H0 (sPop i j)) := ps_weak raw fun D σ H ⟨F, α, ρ, S, o, S', A, e, k⟩ => by
  unfold sPop at e
  split at e
  · rename_i xs hj
    split at e
    · rename_i x ex
      cases e
      obtain ⟨a, vs, hs, hl, nf, ra⟩ := A.en.sl j _ hj
      rw [List.getLast?_eq_getElem?] at ex
      obtain ⟨v, hv, rv⟩ := ra.getD ex
      refine ⟨.ref a, hs, .inl ⟨rfl, vs, SqL.of hl⟩, a, vs, v, rfl, rfl, hl, by rw [ra.length]; exact hv, ?_⟩
      have A1 : At X.K Θ F0 α0 H0 F α (upd H a (.lst vs.dropLast)) σ (ρ.set j (.own xs.dropLast)) S := A.change hj hs hl nf ra.dropLast
      have sw : StepW F α H F α (upd H a (.lst vs.dropLast)) := StepW.mut hl nf
      exact k _ F α _ sw (At.bind (A1 := A1) (A1.en.set i (rv.monoW A.sr sw)) OwnSub.set)
    · cases e
  · cases e

/-! ### xs.extend(a list | a tuple) -/
def rExtT (K : PySem.W.Frag) : V → List V → Hp → VK → Prop := fun x vs H Q => ∃ l b xs zs, x = .ref l ∧ vs = [.ref b] ∧ H l = some (.lst xs) ∧ H b = some (.tup zs) ∧ xs.length + zs.length ≤ sizeLine ∧ Q .non (upd H l (.lst (xs ++ zs)))
theorem mt_extT : MtM X "list.extend" (rExtT X.K) := by
  intro pins s σ H x vs v us Q I rx rv ⟨l, b, xs, zs, e1, e2, hH, hB, hz, q⟩
  subst e1 e2
  cases rx
  obtain ⟨u, eu, ru⟩ := rv.one
  subst eu
  cases ru
  obtain ⟨z, its, n, r, hl, e⟩ := I.lstM hH
  obtain ⟨its2, r2, ⟨⟨oc, od, dt, sl⟩, e2, hc, n2, hd⟩, hz2⟩ := I.tuple (SqT.of hB)
  dsimp only at hc hd
  subst hc hd
  have l2 := r2.length
  have hs : its.toArray.size + its2.toArray.size ≤ sizeLine := by simp only [List.size_toArray]; omega
  refine call_meets PySem.F.slot_list_extend ⟨_, e, rfl⟩ PySem.F.entry_list_extend (PySem.F.args_list_extend_2 _ _) (extend_tup l its.toArray n b od sl its2.toArray n2 (fun h => by rw [notLongL hs, Bool.and_false] at h; cases h) (by simp only [List.size_toArray]; omega) (by rw [Array.size_append]; omega)) ⟨e, e2, ?_⟩
  exact ⟨.non, _, I.lset (its' := its ++ its2) hH e (by simp) (r.append r2) (by rw [List.length_append]; omega), rfl, q⟩
theorem mtm_or {id : String} {r r' : V → List V → Hp → VK → Prop} (h : MtM X id r) (h' : MtM X id r') : MtM X id (fun x xs H Q => r x xs H Q ∨ r' x xs H Q) := by
  intro pins s σ H x vs v us Q I rx rv q
  rcases q with q | q
  · exact h pins s σ H x vs v us Q I rx rv q
  · exact h' pins s σ H x vs v us Q I rx rv q
def rExtA (K : PySem.W.Frag) : V → List V → Hp → VK → Prop := fun x xs H Q => rExtend x xs H Q ∨ rExtT K x xs H Q
theorem mt_extA : MtM X "list.extend" (rExtA X.K) := mtm_or mt_extend mt_extT
def sExtA (i : Nat) (f : EX) : GS := fun ρ S => match ρ[i]? with
  | some (.own xs) => (match f ρ S with
    | some (.lst ys, S1) => if xs.length + ys.length ≤ sizeLine then some (.nx (ρ.set i (.own (xs ++ ys))), S1) else none
    | some (.tup ys, S1) => if xs.length + ys.length ≤ sizeLine then some (.nx (ρ.set i (.own (xs ++ ys))), S1) else none
    | _ => none)
  | _ => none
theorem j_extA {i : Nat} (raw : PS X st (tDrop (tBM X.K "list" (rExtA X.K) (tVar i) (tCons (tW X.K Θ f) tNil)))) : PS X st (tS X.K Θ ξ F0 α0 H0 (sExtA i f)) := ps_weak raw fun D σ H ⟨F, α, ρ, S, o, S', A, e, k⟩ => by
  unfold sExtA at e
  split at e
  · rename_i xs hi
    split at e
    · split at e
      · rename_i ys S1 e1 hz
        cases e
        obtain ⟨a, vs, hs, hl, nf, ra⟩ := A.en.sl i _ hi
        refine ⟨.ref a, hs, .inl ⟨rfl, vs, SqL.of hl⟩, F, α, ρ, S, _, _, A.sr, A.en, e1, fun v F1 α1 H1 st1 hs1 rv => ?_⟩
        have hl1 : H1 a = some (.lst vs) := st1.hp a _ hl (A.sr.outL hl)
        have nf1 : ¬ F1 a := fun z => (st1.fn a z).elim nf fun z => (z.no hl).elim
        obtain ⟨b, us, rfl, hb, rb⟩ := rv.lst'
        exact .inl ⟨a, b, vs, us, rfl, rfl, hl1, hb, by rw [ra.length, rb.length]; exact hz, k σ F1 α1 _ (st1.w.trans (StepW.mut hl1 nf1)) ((A.mono st1 hs1).change hi hs hl1 nf1 ((ra.mono A.sr st1).append rb))⟩
      · cases e
    · split at e
      · rename_i ys S1 e1 hz
        cases e
        obtain ⟨a, vs, hs, hl, nf, ra⟩ := A.en.sl i _ hi
        refine ⟨.ref a, hs, .inl ⟨rfl, vs, SqL.of hl⟩, F, α, ρ, S, _, _, A.sr, A.en, e1, fun v F1 α1 H1 st1 hs1 rv => ?_⟩
        have hl1 : H1 a = some (.lst vs) := st1.hp a _ hl (A.sr.outL hl)
        have nf1 : ¬ F1 a := fun z => (st1.fn a z).elim nf fun z => (z.no hl).elim
        obtain ⟨b, us, rfl, hb, rb⟩ := rv.tup'
        exact .inr ⟨a, b, vs, us, rfl, rfl, hl1, hb, by rw [ra.length, rb.length]; exact hz, k σ F1 α1 _ (st1.w.trans (StepW.mut hl1 nf1)) ((A.mono st1 hs1).change hi hs hl1 nf1 ((ra.mono A.sr st1).append rb))⟩
      · cases e
    · cases e
  · cases e

/-! ### dicts of the store: {}, k in d, list(d) -/
theorem ObR.keys : ∀ {kvs : List (Key × V)} {o : Ob}, ObR K F α H kvs o → kvs.map (·.1) = o.map fun q => Sum.inr q.1
  | _, _, .nil => rfl
  | _, _, .cons r t => by rw [List.map_cons, List.map_cons, r.1, ObR.keys t]
mutual
theorem Rp.sw (k : ∀ a o, H a = some o → (∀ kvs, o ≠ .dK kvs) → H' a = some o) (al : ∀ (n : Nat) (a : Addr), α[n]? = some a → α'[n]? = some a) : ∀ {v : V} {d : D}, Rp K F α H v d → Rp K F α' H' v d
  | _, _, .non => .non
  | _, _, .bl b => .bl b
  | _, _, .int i => .int i
  | _, _, .str x => .str x
  | _, _, .lst f h r => .lst f (k _ _ h fun _ z => by cases z) (RpA.sw k al r)
  | _, _, .tup h r => .tup (k _ _ h fun _ z => by cases z) (RpA.sw k al r)
  | _, _, .frz h r => .frz (h.keep id (fun _ h => k _ _ h fun _ z => by cases z) fun _ h => k _ _ h fun _ z => by cases z) (RpA.sw k al r)
  | _, _, .obj h => .obj (al _ _ h)
theorem RpA.sw (k : ∀ a o, H a = some o → (∀ kvs, o ≠ .dK kvs) → H' a = some o) (al : ∀ (n : Nat) (a : Addr), α[n]? = some a → α'[n]? = some a) : ∀ {vs : List V} {ds : List D}, RpA K F α H vs ds → RpA K F α' H' vs ds
  | _, _, .nil => .nil
  | _, _, .cons h r => .cons (Rp.sw k al h) (RpA.sw k al r)
end
theorem al_app {m : List Addr} : ∀ (n : Nat) (a : Addr), α[n]? = some a → (α ++ m)[n]? = some a := fun n a h => by
  rw [List.getElem?_append_left (List.getElem?_eq_some_iff.mp h).1]; exact h
/-- the dict at p, not of the store, is from now on the store's last -/
theorem StR.addD {p : Addr} {kvs : List (Key × V)} {o : Ob} (hs : StR K Θ F α H S) (hp : H p = some (.dK kvs)) (np : p ∉ α) (ro : ObR K F α H kvs o) : StR K Θ F (α ++ [p]) H (S ++ [o]) := by
  have up : ∀ {v : V} {d : D}, Rp K F α H v d → Rp K F (α ++ [p]) H v d := fun r => r.sw (fun _ _ h _ => h) al_app
  refine ⟨by rw [List.length_append, List.length_append, hs.len]; rfl, ?_, hs.fa, hs.tb, fun n a q => ?_⟩
  · rw [List.nodup_append]
    exact ⟨hs.nd, by simp, fun a ma b mb z => by
      rw [List.mem_singleton.mp mb] at z
      exact np (by rw [← z]; exact ma)⟩
  · by_cases hn : n < α.length
    · rw [List.getElem?_append_left hn] at q
      obtain ⟨kv, u, q1, q2, q3⟩ := hs.ob n a q
      exact ⟨kv, u, by rw [List.getElem?_append_left (by rw [← hs.len]; exact hn)]; exact q1, q2, pairedImp q3 fun _ _ z => ⟨z.1, up z.2⟩⟩
    · rw [List.getElem?_append_right (by omega)] at q
      have en : n - α.length = 0 := by
        cases z : n - α.length with
        | zero => rfl
        | succ k => rw [z] at q; simp at q
      rw [en] at q
      simp at q
      subst q
      have e2 : n = S.length := by rw [← hs.len]; omega
      exact ⟨kvs, o, by rw [e2, List.getElem?_append_right (Nat.le_refl _), Nat.sub_self]; rfl, hp, pairedImp ro fun _ _ z => ⟨z.1, up z.2⟩⟩
theorem Step.addD {p : Addr} (st : Step F α H F1 α1 H1) (hp : Fr H p) {kvs : List (Key × V)} (h1 : H1 p = some (.dK kvs)) : Step F α H F1 (α1 ++ [p]) H1 := by
  refine ⟨st.fm, st.fn, ?_, st.hq, st.hd⟩
  obtain ⟨m, e, hm⟩ := st.ap
  refine ⟨m ++ [p], by rw [e, List.append_assoc], fun a ma => ?_⟩
  rcases List.mem_append.mp ma with ma | ma
  · exact hm a ma
  · rw [List.mem_singleton.mp ma]; exact hp
theorem EnR.addD {p : Addr} (en : EnR K F α H σ ρ) : EnR K F (α ++ [p]) H σ ρ := ⟨en.len, fun i s h => by
  have q := en.sl i s h
  cases s with
  | un => exact True.intro
  | d y => obtain ⟨v, q1, q2⟩ := q; exact ⟨v, q1, q2.sw (fun _ _ h _ => h) al_app⟩
  | own zs => obtain ⟨b, ws, q1, q2, q3, q4⟩ := q; exact ⟨b, ws, q1, q2, q3, q4.sw (fun _ _ h _ => h) al_app⟩, en.di⟩
/-- {} -/
def eNew : EX := fun _ S => some (.obj S.length, S ++ [[]])
theorem j_new (raw : PE X e tDNewK) : PE X e (tV X.K Θ eNew) := pe_weak raw fun σ H Q ⟨F, α, ρ, S, d, S', h1, h2, h3, k⟩ => by
  cases h3
  intro p hp
  have st : Step F α H F α (upd H p (.dK [])) := Step.new h1 hp
  have np : p ∉ α := fun m => by
    obtain ⟨kv, q⟩ := h1.at m
    rw [hp] at q; cases q
  refine k (.ref p) F (α ++ [p]) _ (st.addD (.of hp) upd_same) ((h1.new hp).addD upd_same np .nil) (.obj ?_)
  rw [← h1.len, List.getElem?_append_right (Nat.le_refl _), Nat.sub_self]; rfl
/-- k in d -/
def tInD (neg : Bool) (fk fo : EX) : ET := fun ρ S => match fk ρ S with
  | some (.str m, S1) => (match fo ρ S1 with | some (.obj n, S2) => (match S2[n]? with | some o => some (if neg then !(obGet o m).isSome else (obGet o m).isSome, S2) | none => none) | _ => none)
  | _ => none
theorem obR_none : ∀ {kvs : List (Key × V)} {o : Ob} {m : Str}, ObR K F α H kvs o → obGet o m = none → valV kvs (Sum.inr m) = none
  | _, _, m, .nil, _ => rfl
  | _, _, m, .cons (a := p) (b := q) r t, e => by
    obtain ⟨k1, v1⟩ := p
    obtain ⟨k2, d2⟩ := q
    obtain ⟨r1, r2⟩ := r
    dsimp only at r1
    subst r1
    unfold obGet at e
    split at e
    · cases e
    · rename_i ne
      have ih := obR_none t e
      unfold valV at ih ⊢
      rw [List.find?_cons_of_neg (by simpa using fun z => ne z)]
      exact ih
theorem din_imp {neg : Bool} {fk fo : EX} {σ : L2.St} {H : Hp} {Q : Bool → Hp → Prop} (q : tT K Θ (tInD neg fk fo) σ H Q) : (tW K Θ fk) σ H fun y H1 => (tW K Θ fo) σ H1 fun x H2 => ∃ a o, x = .ref a ∧ DGet H2 a y o ∧ Q (if neg then !o.isSome else o.isSome) H2 := by
  obtain ⟨F, α, ρ, S, b, S', h1, h2, h3, k⟩ := q
  unfold tInD at h3
  split at h3
  · rename_i m S1 e1
    split at h3
    · rename_i n S2 e2
      split at h3
      · rename_i o eo
        cases h3
        refine ⟨F, α, ρ, S, _, _, h1, h2, e1, fun y F1 α1 H1 st1 hs1 ry => ⟨F1, α1, ρ, S1, _, _, hs1, h2.mono h1 st1, e2, fun x F2 α2 H2 st2 hs2 rx => ?_⟩⟩
        cases ry.str
        obtain ⟨a, rfl, ha⟩ := rx.obj'
        obtain ⟨kvs, o', q1, q2, q3⟩ := hs2.ob n a ha
        rw [eo] at q1; cases q1
        have kk := k F2 α2 H2 (st1.trans st2) hs2
        cases ov : obGet o m with
        | none =>
          rw [ov] at kk
          exact ⟨a, none, rfl, by rw [← obR_none q3 ov]; exact DGet.k (k := Sum.inr m) q2, kk⟩
        | some d =>
          rw [ov] at kk
          obtain ⟨v, hv, _⟩ := obR_get q3 ov
          exact ⟨a, some v, rfl, by rw [← hv]; exact DGet.k (k := Sum.inr m) q2, kk⟩
      · cases h3
    · cases h3
  · cases h3
theorem j_din {fk fo : EX} {a b : Expr} (hu : X.A.units + 1 < cLine) (p : PE X a (tW X.K Θ fk)) (q : PE X b (tW X.K Θ fo)) (h1 : behindInMarks .In b = false := by first | exact nobehind _ (by decide) (by decide) | rfl) : PT X (.Compare a [.In] [b] pos) (tT X.K Θ (tInD false fk fo)) :=
  pt_weak (pt_cmp (pc_din hu p q) h1) fun σ H Q h => by
    obtain ⟨F, α, ρ, S, d, S', a1, a2, a3, a4⟩ := din_imp h
    exact ⟨F, α, ρ, S, d, S', a1, a2, a3, fun v F' α' H' st hs r => by
      obtain ⟨F, α, ρ, S, d, S', b1, b2, b3, b4⟩ := a4 v F' α' H' st hs r
      exact ⟨F, α, ρ, S, d, S', b1, b2, b3, fun v F' α' H' st hs r => by
        obtain ⟨a, o, c1, c2, c3⟩ := b4 v F' α' H' st hs r
        exact ⟨a, o, c1, c2, _, rfl, c3⟩⟩⟩
theorem j_dnotin {fk fo : EX} {a b : Expr} (hu : X.A.units + 1 < cLine) (p : PE X a (tW X.K Θ fk)) (q : PE X b (tW X.K Θ fo)) (h1 : behindInMarks .NotIn b = false := by first | exact nobehind _ (by decide) (by decide) | rfl) : PT X (.Compare a [.NotIn] [b] pos) (tT X.K Θ (tInD true fk fo)) :=
  pt_weak (pt_cmp (pc_dnotin hu p q) h1) fun σ H Q h => by
    obtain ⟨F, α, ρ, S, d, S', a1, a2, a3, a4⟩ := din_imp h
    exact ⟨F, α, ρ, S, d, S', a1, a2, a3, fun v F' α' H' st hs r => by
      obtain ⟨F, α, ρ, S, d, S', b1, b2, b3, b4⟩ := a4 v F' α' H' st hs r
      exact ⟨F, α, ρ, S, d, S', b1, b2, b3, fun v F' α' H' st hs r => by
        obtain ⟨a, o, c1, c2, c3⟩ := b4 v F' α' H' st hs r
        exact ⟨a, o, c1, c2, _, rfl, c3⟩⟩⟩
end
end J

set_option maxHeartbeats 4000000
namespace J
open PySem PySem.Spec PyProof.Rows L2
section
variable {ξ : XE} {K : PySem.W.Frag} {F0 F F' F2 F1 : Addr → Prop} {α0 α α' α2 α1 : List Addr} {H0 H H' H2 H1 : Hp} {S S' S2 S1 : Store} {v : V} {d : D} {ρ ρ' : Env} {ds : List D} {σ σ' : L2.St} {D' : Ends} {o : Out}
variable {X : Cx} {a b c e tg : Expr} {es : List Expr} {f h : EX} {r l : EL} {pos p pos2 lpos : Pos} {x : Str} {st : Stmt} {rest body : List Stmt} {g g1 g2 : GS} {E : XK}
/-! ### list(x): of a list, a tuple, a dict of the store -/
def lListA (f : EX) : EL := fun ρ S => match f ρ S with
  | some (.obj n, S1) => (match S1[n]? with | some o => some (o.map fun q => .str q.1, S1) | none => none)
  | some (.lst xs, S1) => some (xs, S1)
  | some (.tup xs, S1) => some (xs, S1)
  | _ => none
theorem strs_rp : ∀ o : Ob, RpA K F α H (o.map fun q => V.str q.1) (o.map fun q => D.str q.1)
  | [] => .nil
  | q :: r => .cons (.str _) (strs_rp r)
theorem j_listA (raw : PE X e (tCB (fun xs H Q => rListJ X.K xs H Q ∨ rListD xs H Q) (tCons (tW X.K Θ f) tNil))) : PE X e (tL X.K Θ (lListA f)) := pe_weak raw fun σ H Q ⟨F, α, ρ, S, d, S', h1, h2, h3, k⟩ => by
  have fin : ∀ {F1 α1 H1} {vs : List V} {ds : List D}, Step F α H F1 α1 H1 → StR X.K Θ F1 α1 H1 S' → RpA X.K F1 α1 H1 vs ds → ds = d → ∀ l, H1 l = none → Q (.ref l) (upd H1 l (.lst vs)) := fun {F1 α1 H1 vs ds} st hs r e l hl => by
    subst e
    have sn : Step F1 α1 H1 F1 α1 (upd H1 l (.lst vs)) := Step.new hs hl
    exact k l vs F1 α1 _ (st.trans sn) (hs.new hl) (st.backN hl) (fun f => hs.fa l f (.of hl)) upd_same (r.mono hs sn)
  unfold lListA at h3
  split at h3
  · rename_i n S1 e1
    split at h3
    · rename_i o eo
      cases h3
      refine ⟨F, α, ρ, S, _, _, h1, h2, e1, fun v F1 α1 H1 st1 hs1 rv => ?_⟩
      obtain ⟨a, rfl, ha⟩ := rv.obj'
      obtain ⟨kvs, o', q1, q2, q3⟩ := hs1.ob n a ha
      rw [eo] at q1; cases q1
      refine .inr ⟨a, kvs, rfl, q2, fun l hl => ?_⟩
      have ek : (kvs.map fun kv => kV kv.1) = o.map fun q => V.str q.1 := by
        have e := congrArg (List.map kV) (ObR.keys q3)
        rw [List.map_map, List.map_map] at e
        exact e
      rw [ek]
      exact fin st1 hs1 (strs_rp o) rfl l hl
    · cases h3
  · rename_i xs S1 e1
    cases h3
    refine ⟨F, α, ρ, S, _, _, h1, h2, e1, fun v F1 α1 H1 st1 hs1 rv => ?_⟩
    obtain ⟨a, vs, rfl, hl, ra⟩ := rv.lst'
    exact .inl ⟨a, vs, rfl, .inl (SqL.of hl), fin st1 hs1 ra rfl⟩
  · rename_i xs S1 e1
    cases h3
    refine ⟨F, α, ρ, S, _, _, h1, h2, e1, fun v F1 α1 H1 st1 hs1 rv => ?_⟩
    obtain ⟨a, vs, rfl, hl, ra⟩ := rv.tup'
    exact .inl ⟨a, vs, rfl, .inr (SqT.of hl), fin st1 hs1 ra rfl⟩
  · cases h3
/-! ### sum of ints -/
def gSum : List D → Option D
  | [.lst xs] => (match ints? xs with | some ns => some (.int ns.sum) | none => none)
  | _ => none
theorem sp_sum : SpC K Θ (rSum K) gSum := by
  intro F α H S xs dxs d Q s r e q
  unfold gSum at e
  split at e
  · rename_i ds
    obtain ⟨v, rfl, rv⟩ := r.one
    split at e
    · rename_i ns en
      cases e
      obtain ⟨a, vs, rfl, hl, ra⟩ := rv.lst'
      have ev := ints_of ra en
      subst ev
      exact ⟨a, ns, rfl, SqL.of hl, q _ F α H (Step.refl s) s (.int _)⟩
    · cases e
  · cases e
/-! ### range(a, b, c) -/
def stepped (i c : Int) (n : Nat) : List D := (List.range n).map fun k => .int (i + (k : Nat) * c)
theorem stepped_len (i c : Int) (n : Nat) : (stepped i c n).length = n := by unfold stepped; rw [List.length_map, List.length_range]
theorem wk_rangeC {T : (Addr → Prop) → List Addr → Hp → Prop} {i c : Int} {n : Nat} : Wk K Θ T (Itc i c n) (stepped i c n) where
  stop := fun k F α H S t s hi => by rw [stepped_len] at hi; exact hi
  go := fun k F α H S t s hi => by rw [stepped_len] at hi; exact hi
  yld := fun k F α H S x H' t s y hi => by
    obtain ⟨e, ex⟩ := y
    subst e ex
    rw [stepped_len] at hi
    refine ⟨.int (i + (k : Nat) * c), F, ?_, Step.refl s, s, .int _⟩
    unfold stepped
    rw [List.getElem?_map, List.getElem?_range hi]; rfl
def iRg3 (r : EL) : EL := fun ρ S => match r ρ S with
  | some ([.int i, .int j, .int c], S1) => if (c ≠ 0 ∧ c.natAbs < 1073741824) ∧ Builtin.Range.small i j c = true then some (stepped i c (Builtin.Range.rangeSize i j c).toNat, S1) else none
  | _ => none
theorem RwA.three {xs : List V} {d1 d2 d3 : D} (r : RwA K F α H xs [d1, d2, d3]) : ∃ v1 v2 v3, xs = [v1, v2, v3] ∧ Rw K F α H v1 d1 ∧ Rw K F α H v2 d2 ∧ Rw K F α H v3 d3 := by
  cases r with
  | cons r1 r => cases r with
    | cons r2 r => cases r with
      | cons r3 r => cases r; exact ⟨_, _, _, rfl, r1, r2, r3⟩
theorem j_rg3 (raw : PI X tg e (iRng3 (tWs X.K Θ r))) : PI X tg e (iJ X.K Θ (iRg3 r)) := pi_weak raw fun σ H R ⟨F, α, ρ, S, d, S', h1, h2, h3, k⟩ => by
  unfold iRg3 at h3
  split at h3
  · split at h3
    · rename_i i j c S1 e hj
      cases h3
      refine ⟨F, α, ρ, S, _, _, h1, h2, e, fun vs F1 α1 H1 st1 hs1 rv => ?_⟩
      obtain ⟨v1, v2, v3, rfl, r1, r2, r3⟩ := rv.three
      cases r1.int
      cases r2.int
      cases r3.int
      exact ⟨i, j, c, _, rfl, ⟨hj.1.1, hj.1.2, hj.2, rangeSize_toNat i j c⟩, k _ F1 α1 H1 st1 hs1 wk_rangeC⟩
    · cases h3
  · cases h3
/-! ### [.. for .. in .. if .. for .. in .. if ..] -/
def lcGo2 (bd : BD) (cond : ET) (vs1 : List Nat) (l1 : EL) (bd1 : BD) (cond1 : ET) (elt : EX) (ρ : Env) : List D → Store → Option (List D × Store)
  | [], S => some ([], S)
  | x :: xs, S => match bd x ρ with
    | none => none
    | some ρ1 => match cond ρ1 S with
      | none => none
      | some (false, S1) => lcGo2 bd cond vs1 l1 bd1 cond1 elt ρ xs S1
      | some (true, S1) => match l1 ρ1 S1 with
        | none => none
        | some (ys, S2) => match lcGo bd1 cond1 elt (wipeE ρ1 vs1) ys S2 with
          | none => none
          | some (zs, S3) => match lcGo2 bd cond vs1 l1 bd1 cond1 elt ρ xs S3 with
            | none => none
            | some (ws, S4) => some (zs ++ ws, S4)
def lComp2 (vs vs1 : List Nat) (l : EL) (bd : BD) (cond : ET) (l1 : EL) (bd1 : BD) (cond1 : ET) (elt : EX) : EL := fun ρ S => match l ρ S with
  | none => none
  | some (xs, S1) => match lcGo2 bd cond vs1 l1 bd1 cond1 elt (wipeE ρ vs) xs S1 with
    | none => none
    | some (ys, S2) => if ys.length ≤ sizeLine then some (ys, S2) else none
theorem lComp2_some {vs vs1 : List Nat} {l1 : EL} {bd bd1 : BD} {cond cond1 : ET} {elt : EX} (q : lComp2 vs vs1 l bd cond l1 bd1 cond1 elt ρ S = some (ds, S')) : ∃ xs S1, l ρ S = some (xs, S1) ∧ lcGo2 bd cond vs1 l1 bd1 cond1 elt (wipeE ρ vs) xs S1 = some (ds, S') ∧ ds.length ≤ sizeLine := by
  unfold lComp2 at q
  split at q
  · cases q
  · split at q
    · cases q
    · split at q
      · cases q; exact ⟨_, _, by assumption, by assumption, by assumption⟩
      · cases q
/-- behind i items of the outer walk -/
def Lc2W (K : PySem.W.Frag) (Θ : TL) (F1 : Addr → Prop) (α1 : List Addr) (H1 : Hp) (G : List D → Store → Option (List D × Store)) (xs : List D) (ds : List D) (S' : Store) (Dd : Addr) : Nat → Nat → Hp → Prop := fun i m H =>
  m = xs.length - i ∧ i ≤ xs.length ∧ ∃ F α S acc ys yr, Step F1 α1 H1 F α H ∧ StR K Θ F α H S ∧ ¬ F Dd ∧ H Dd = some (.lst acc) ∧ RpA K F α H acc ys ∧ G (xs.drop i) S = some (yr, S') ∧ ds = ys ++ yr
theorem EnR.mutL {Dd : Addr} {xs ys : List V} (en : EnR K F α H σ ρ) (hs : StR K Θ F α H S) (h : H Dd = some (.lst xs)) (nf : ¬ F Dd) (no : ∀ (i : Nat) (zs : List D), ρ[i]? = some (.own zs) → σ[i]? ≠ some (some (.ref Dd))) : EnR K F α (upd H Dd (.lst ys)) σ ρ := ⟨en.len, fun i s hi => by
  have q := en.sl i s hi
  cases s with
  | un => exact True.intro
  | d y => obtain ⟨v, q1, q2⟩ := q; exact ⟨v, q1, q2.monoW hs (StepW.mut h nf)⟩
  | own zs =>
    obtain ⟨b, ws, q1, q2, q3, q4⟩ := q
    have nb : b ≠ Dd := fun z => no i zs hi (by rw [q1, z])
    exact ⟨b, ws, q1, by rw [upd_ne nb]; exact q2, q3, q4.monoW hs (StepW.mut h nf)⟩, en.di⟩
theorem wipe_own : ∀ {vs : List Nat} {σ : L2.St} {ρ : Env} {i : Nat} {xs : List D}, (wipeE ρ vs)[i]? = some (.own xs) → ρ[i]? = some (.own xs) ∧ (L2.wipe σ vs)[i]? = σ[i]?
  | [], _, _, _, _, h => ⟨h, rfl⟩
  | v :: vs, σ, ρ, i, xs, h => by
    have h' : ((wipeE ρ vs).set v .un)[i]? = some (.own xs) := h
    have n : v ≠ i := fun z => by
      subst z
      have hi : v < (wipeE ρ vs).length := by
        have := (List.getElem?_eq_some_iff.mp h').1
        rwa [List.length_set] at this
      rw [List.getElem?_set_self hi] at h'
      cases h'
    rw [List.getElem?_set_ne n] at h'
    obtain ⟨q1, q2⟩ := wipe_own (σ := σ) h'
    refine ⟨q1, ?_⟩
    show ((L2.wipe σ vs).set v none)[i]? = _
    rw [List.getElem?_set_ne n]; exact q2
/-- behind j items of the inner walk -/
def Lc3W (K : PySem.W.Frag) (Θ : TL) (F1 : Addr → Prop) (α1 : List Addr) (H1 : Hp) (F6 : Addr → Prop) (α6 : List Addr) (H6 : Hp) (σw : L2.St) (ρw : Env) (G : List D → Store → Option (List D × Store)) (xs : List D) (ds : List D) (S' : Store) (Dd : Addr) : Nat → Nat → Hp → Prop := fun i m H =>
  m = xs.length - i ∧ i ≤ xs.length ∧ ∃ F α S acc ys yr, StepW F6 α6 H6 F α H ∧ Step F1 α1 H1 F α H ∧ StR K Θ F α H S ∧ EnR K F α H σw ρw ∧ ¬ F Dd ∧ H Dd = some (.lst acc) ∧ RpA K F α H acc ys ∧ G (xs.drop i) S = some (yr, S') ∧ ds = ys ++ yr
theorem comp2_imp {own own1 : List Nat} {gt gt1 : TG} {bd bd1 : BD} {cond cond1 : ET} {elt : EX} {l1 : EL} (sub : ∀ u ∈ own1, u ∈ own) (sg : SpG K Θ gt bd own) (sg1 : SpG K Θ gt1 bd1 own1) {σ : L2.St} {H : Hp} {Q : VK} :
    tL K Θ (lComp2 own own1 l bd cond l1 bd1 cond1 elt) σ H Q → tLc2 (iW K Θ l) gt (tT K Θ cond) (iJ K Θ l1) gt1 (tT K Θ cond1) (tV K Θ elt) own own1 σ H Q :=
  fun ⟨F, α, ρ, S, ds, S', h1, h2, h3, k⟩ => by
    obtain ⟨xs, S1, a1, a2, a3⟩ := lComp2_some h3
    refine ⟨F, α, ρ, S, xs, S1, h1, h2, a1, fun J F1 α1 H1 st1 hs1 wk Dd hD => ?_⟩
    refine ⟨Lc2W K Θ F1 α1 H1 (lcGo2 bd cond own1 l1 bd1 cond1 elt (wipeE ρ own)) xs ds S' Dd, ⟨xs.length, by simp, Nat.zero_le _, F1, α1, S1, [], [], ds, Step.new hs1 hD, hs1.new hD, fun f => hs1.fa _ f (.of hD), upd_same, .nil, by rw [List.drop_zero]; exact a2, rfl⟩, ?_⟩
    rintro i m H2 ⟨rfl, hi, F2, α2, S2, acc, ys, yr, st2, hs2, nf, hacc, racc, hgo, hds⟩
    by_cases hlt : i < xs.length
    · have hx : xs[i]? = some xs[i] := List.getElem?_eq_getElem hlt
      rw [dropCons hx] at hgo
      refine .inr ⟨wk.go i F2 α2 H2 S2 st2 hs2 hlt, fun H' => ∃ m', m' < xs.length - i ∧ Lc2W K Θ F1 α1 H1 (lcGo2 bd cond own1 l1 bd1 cond1 elt (wipeE ρ own)) xs ds S' Dd (i + 1) m' H', fun H' q => q, fun y H3 hy => ?_⟩
      obtain ⟨dx, F3, hdx, st3, hs3, rdx⟩ := wk.yld i F2 α2 H2 S2 y H3 st2 hs2 hy hlt
      rw [hx] at hdx
      cases hdx
      unfold lcGo2 at hgo
      split at hgo
      · cases hgo
      · rename_i ρ1 eb
        have en3 : EnR K F3 α2 H3 (L2.wipe σ own) (wipeE ρ own) := ((h2.mono h1 st1).mono hs1 (st2.trans st3)).wipe own
        refine sg F3 α2 H3 S2 _ _ y xs[i] ρ1 _ hs3 en3 rdx eb fun σ4 en4 w4 ow4 => ⟨?_, ?_⟩
        · rw [w4, wipe_sub fun _ m => m]
        split at hgo
        · cases hgo
        · rename_i S4 ec
          refine ⟨F3, α2, ρ1, S2, _, _, hs3, en4, ec, fun F5 α5 H5 st5 hs5 => iteF ?_⟩
          have st : Step F2 α2 H2 F5 α5 H5 := st3.trans st5
          exact ⟨xs.length - (i + 1), by omega, rfl, hlt, F5, α5, S4, acc, ys, yr, st2.trans st, hs5, fun f => (st.fn Dd f).elim nf fun z => (z.no hacc).elim, st.hp Dd _ hacc (hs2.outL hacc), racc.mono hs2 st, hgo, hds⟩
        · rename_i S4 ec
          split at hgo
          · cases hgo
          · rename_i ys1 S5 el
            split at hgo
            · cases hgo
            · rename_i zs S6 ez
              split at hgo
              · cases hgo
              · rename_i ws S7 er
                cases hgo
                refine ⟨F3, α2, ρ1, S2, _, _, hs3, en4, ec, fun F5 α5 H5 st5 hs5 => iteT ?_⟩
                refine ⟨F5, α5, ρ1, S4, ys1, S5, hs5, en4.mono hs3 st5, el, fun J1 F6 α6 H6 st6 hs6 wk1 => ?_⟩
                have stA : Step F2 α2 H2 F6 α6 H6 := (st3.trans st5).trans st6
                -- the inner walk
                have no : ∀ (i : Nat) (zs : List D), (wipeE ρ1 own1)[i]? = some (.own zs) → (L2.wipe σ4 own1)[i]? ≠ some (some (.ref Dd)) := fun i zs q z => by
                  obtain ⟨q1, q2⟩ := wipe_own (σ := σ4) q
                  obtain ⟨q3, q4⟩ := ow4 i zs q1
                  obtain ⟨q5, q6⟩ := wipe_own (σ := σ) q3
                  obtain ⟨us, q7, _⟩ := h2.live q5 (by rw [← q6, ← q4, ← q2]; exact z)
                  exact (st1.backN hD).no q7
                have en6 : EnR K F6 α6 H6 (L2.wipe σ4 own1) (wipeE ρ1 own1) := ((en4.mono hs3 st5).mono hs5 st6).wipe own1
                refine ⟨Lc3W K Θ F1 α1 H1 F6 α6 H6 (L2.wipe σ4 own1) (wipeE ρ1 own1) (lcGo bd1 cond1 elt (wipeE ρ1 own1)) ys1 (ys ++ zs) S6 Dd, ⟨ys1.length, by simp, Nat.zero_le _, F6, α6, S5, acc, ys, zs, StepW.refl, st2.trans stA, hs6, en6, fun f => (stA.fn Dd f).elim nf fun z => (z.no hacc).elim, stA.hp Dd _ hacc (hs2.outL hacc), racc.mono hs2 stA, by rw [List.drop_zero]; exact ez, rfl⟩, ?_⟩
                rintro j n H7 ⟨rfl, hj, F7, α7, S7', acc7, ys7, yr7, sw7, st7, hs7, en7, nf7, hacc7, racc7, hgo7, hds7⟩
                by_cases hlt7 : j < ys1.length
                · have hx7 : ys1[j]? = some ys1[j] := List.getElem?_eq_getElem hlt7
                  rw [dropCons hx7] at hgo7
                  refine .inr ⟨wk1.go j F7 α7 H7 S7' sw7 hs7 hlt7, fun H' => ∃ n', n' < ys1.length - j ∧ Lc3W K Θ F1 α1 H1 F6 α6 H6 (L2.wipe σ4 own1) (wipeE ρ1 own1) (lcGo bd1 cond1 elt (wipeE ρ1 own1)) ys1 (ys ++ zs) S6 Dd (j + 1) n' H', fun H' q => q, fun y8 H8 hy8 => ?_⟩
                  obtain ⟨dx8, F8, hdx8, st8, hs8, rdx8⟩ := wk1.yld j F7 α7 H7 S7' y8 H8 sw7 hs7 hy8 hlt7
                  rw [hx7] at hdx8
                  cases hdx8
                  unfold lcGo at hgo7
                  split at hgo7
                  · cases hgo7
                  · rename_i ρ9 eb9
                    refine sg1 F8 α7 H8 S7' _ _ y8 ys1[j] ρ9 _ hs8 (en7.mono hs7 st8) rdx8 eb9 fun σ9 en9 w9 _ => ⟨?_, ?_⟩
                    · rw [w9, wipe_sub fun _ m => m]
                    split at hgo7
                    · cases hgo7
                    · rename_i S9 ec9
                      refine ⟨F8, α7, ρ9, S7', _, _, hs8, en9, ec9, fun F10 α10 H10 st10 hs10 => iteF ?_⟩
                      have stC : Step F7 α7 H7 F10 α10 H10 := st8.trans st10
                      exact ⟨ys1.length - (j + 1), by omega, rfl, hlt7, F10, α10, S9, acc7, ys7, yr7, sw7.trans stC.w, st7.trans stC, hs10, en7.mono hs7 stC, fun f => (stC.fn Dd f).elim nf7 fun z => (z.no hacc7).elim, stC.hp Dd _ hacc7 (hs7.outL hacc7), racc7.mono hs7 stC, hgo7, hds7⟩
                    · rename_i S9 ec9
                      split at hgo7
                      · cases hgo7
                      · rename_i z9 S10 ee9
                        split at hgo7
                        · cases hgo7
                        · rename_i zs9 S11 er9
                          cases hgo7
                          refine ⟨F8, α7, ρ9, S7', _, _, hs8, en9, ec9, fun F10 α10 H10 st10 hs10 => iteT ?_⟩
                          refine ⟨F10, α10, ρ9, S9, _, _, hs10, en9.mono hs8 st10, ee9, fun w F11 α11 H11 st11 hs11 rw11 => ?_⟩
                          have stC : Step F7 α7 H7 F11 α11 H11 := (st8.trans st10).trans st11
                          have hacc11 : H11 Dd = some (.lst acc7) := stC.hp Dd _ hacc7 (hs7.outL hacc7)
                          have nf11 : ¬ F11 Dd := fun f => (stC.fn Dd f).elim nf7 fun z => (z.no hacc7).elim
                          have hlen : acc7.length < sizeLine := by
                            rw [racc7.length]
                            rw [hds, ← List.append_assoc, hds7] at a3
                            simp only [List.length_append, List.length_cons] at a3
                            omega
                          have sm : StepW F11 α11 H11 F11 α11 (upd H11 Dd (.lst (acc7 ++ [w]))) := StepW.mut hacc11 nf11
                          exact ⟨acc7, hacc11, hlen, ys1.length - (j + 1), by omega, rfl, hlt7, F11, α11, S10, acc7 ++ [w], ys7 ++ [z9], zs9, (sw7.trans stC.w).trans sm, (st7.trans stC).mut hs11 (.of hD) hacc11, hs11.mut hacc11 nf11, (en7.mono hs7 stC).mutL hs11 hacc11 nf11 no, nf11, upd_same, ((racc7.mono hs7 stC).append (.cons rw11 .nil)).monoW hs11 sm, er9, by rw [hds7, List.append_assoc]; rfl⟩
                · have ei : j = ys1.length := by omega
                  subst ei
                  rw [List.drop_length] at hgo7
                  cases hgo7
                  rw [List.append_nil] at hds7
                  exact .inl ⟨wk1.stop _ F7 α7 H7 _ sw7 hs7 (Nat.le_refl _), xs.length - (i + 1), by omega, rfl, hlt, F7, α7, _, acc7, ys7, ws, st7, hs7, nf7, hacc7, racc7, er, by rw [hds, ← hds7, List.append_assoc]⟩
    · have ei : i = xs.length := by omega
      subst ei
      rw [List.drop_length] at hgo
      cases hgo
      rw [List.append_nil] at hds
      subst hds
      exact .inl ⟨wk.stop _ F2 α2 H2 _ st2 hs2 (Nat.le_refl _), k Dd acc F2 α2 H2 (st1.trans st2) hs2 (st1.backN hD) nf hacc racc⟩
theorem j_comp2 {own own1 : List Nat} {gt gt1 : TG} {bd bd1 : BD} {cond cond1 : ET} {elt : EX} {l1 : EL} (sub : ∀ u ∈ own1, u ∈ own) (sg : SpG X.K Θ gt bd own) (sg1 : SpG X.K Θ gt1 bd1 own1) (raw : PE X e (tLc2 (iW X.K Θ l) gt (tT X.K Θ cond) (iJ X.K Θ l1) gt1 (tT X.K Θ cond1) (tV X.K Θ elt) own own1)) : PE X e (tL X.K Θ (lComp2 own own1 l bd cond l1 bd1 cond1 elt)) := pe_weak raw fun σ H Q q => comp2_imp sub sg sg1 q
/-! ### {k: v for .. in .. if ..}, the keys texts -/
def dcGo (bd : BD) (cond : ET) (key val : EX) (ρ : Env) : List D → Ob → Store → Option (Ob × Store)
  | [], o, S => some (o, S)
  | x :: xs, o, S => match bd x ρ with
    | none => none
    | some ρ1 => match cond ρ1 S with
      | none => none
      | some (false, S1) => dcGo bd cond key val ρ xs o S1
      | some (true, S1) => match key ρ1 S1 with
        | some (.str m, S2) => (match val ρ1 S2 with
          | some (y, S3) => if o.length < sizeLine then dcGo bd cond key val ρ xs (obPut o m y) S3 else none
          | none => none)
        | _ => none
def eDcomp (vs : List Nat) (l : EL) (bd : BD) (cond : ET) (key val : EX) : EX := fun ρ S => match l ρ S with
  | none => none
  | some (xs, S1) => match dcGo bd cond key val (wipeE ρ vs) xs [] S1 with
    | none => none
    | some (o, S2) => some (.obj S2.length, S2 ++ [o])
theorem StR.swD {p : Addr} {kvs kvs' : List (Key × V)} (hs : StR K Θ F α H S) (hp : H p = some (.dK kvs)) (np : p ∉ α) : StR K Θ F α (upd H p (.dK kvs')) S := by
  have k : ∀ a o, H a = some o → (∀ kvs, o ≠ .dK kvs) → upd H p (.dK kvs') a = some o := fun a o h n => by
    rw [upd_ne (fun z => by rw [z, hp] at h; exact n _ (Option.some.inj h).symm)]; exact h
  refine ⟨hs.len, hs.nd, fun a f q => ?_, fun q hq => ?_, fun n a q => ?_⟩
  · by_cases z : a = p
    · exact (z ▸ q : Fr (upd H p (.dK kvs')) p).no upd_same
    · exact hs.fa a f fun o he => q o (by rw [upd_ne z]; exact he)
  · obtain ⟨ps, h1, h2, h3⟩ := hs.tb q hq
    refine ⟨ps, k _ _ h1 (fun _ z => by cases z), h2, fun pos cv hc => ?_⟩
    obtain ⟨c, e1, e2⟩ := h3 pos cv hc
    exact ⟨c, e1, k _ _ e2 fun _ z => by unfold LamX.CodeO at z; cases z⟩
  · obtain ⟨kv, u, q1, q2, q3⟩ := hs.ob n a q
    have na : a ≠ p := fun z => np (by rw [← z]; exact List.mem_of_getElem? q)
    exact ⟨kv, u, q1, by rw [upd_ne na]; exact q2, pairedImp q3 fun _ _ z => ⟨z.1, z.2.sw k fun _ _ h => h⟩⟩
theorem Step.swD {p : Addr} {kvs kvs' : List (Key × V)} (st : Step F α H F1 α1 H1) (hp : Fr H p) (h1 : H1 p = some (.dK kvs)) (np : p ∉ α1) : Step F α H F1 α1 (upd H1 p (.dK kvs')) := by
  refine ⟨st.fm, st.fn, st.ap, fun a o e nt m => ?_, fun a m => ?_⟩
  · by_cases z : a = p
    · subst z; exact (hp.no e nt).elim
    · rw [upd_ne z]; exact st.hq a o e nt m
  · obtain ⟨kv, q⟩ := st.hd a m
    have na : a ≠ p := fun z => np (by
      obtain ⟨more, ea, _⟩ := st.ap
      rw [← z, ea]; exact List.mem_append_left _ m)
    exact ⟨kv, by rw [upd_ne na]; exact q⟩
def DcW (K : PySem.W.Frag) (Θ : TL) (F1 : Addr → Prop) (α1 : List Addr) (H1 : Hp) (G : List D → Ob → Store → Option (Ob × Store)) (xs : List D) (o : Ob) (S' : Store) (p : Addr) : Nat → Nat → Hp → Prop := fun i m H =>
  m = xs.length - i ∧ i ≤ xs.length ∧ ∃ F α S kvs u, Step F1 α1 H1 F α H ∧ StR K Θ F α H S ∧ p ∉ α ∧ H p = some (.dK kvs) ∧ ObR K F α H kvs u ∧ G (xs.drop i) u S = some (o, S')
theorem obR_sw (k : ∀ a o, H a = some o → (∀ kvs, o ≠ .dK kvs) → H' a = some o) {kvs : List (Key × V)} {o : Ob} (r : ObR K F α H kvs o) : ObR K F α H' kvs o := pairedImp r fun _ _ z => ⟨z.1, z.2.sw k fun _ _ h => h⟩
theorem obR_mono (s : StR K Θ F α H S) (t : Step F α H F' α' H') {kvs : List (Key × V)} {o : Ob} (r : ObR K F α H kvs o) : ObR K F' α' H' kvs o := pairedImp r fun _ _ z => ⟨z.1, z.2.mono s t⟩
theorem ob_len {kvs : List (Key × V)} {o : Ob} (r : ObR K F α H kvs o) : kvs.length = o.length := pairedLen r
theorem j_dcomp {own : List Nat} {gt : TG} {bd : BD} {cond : ET} {key val : EX} (sg : SpG X.K Θ gt bd own) (raw : PE X e (tDc (iW X.K Θ l) gt (tT X.K Θ cond) (tV X.K Θ key) (tV X.K Θ val) own)) : PE X e (tV X.K Θ (eDcomp own l bd cond key val)) := pe_weak raw fun σ H Q ⟨F, α, ρ, S, d, S', h1, h2, h3, k⟩ => by
  unfold eDcomp at h3
  split at h3
  · cases h3
  rename_i xs S1 a1
  split at h3
  · cases h3
  rename_i of S2 a2
  cases h3
  refine ⟨F, α, ρ, S, xs, S1, h1, h2, a1, fun J F1 α1 H1 st1 hs1 wk Dd hD => ?_⟩
  have nD : Dd ∉ α1 := fun m => by
    obtain ⟨kv, q⟩ := hs1.at m
    rw [hD] at q; cases q
  refine ⟨DcW X.K Θ F1 α1 H1 (dcGo bd cond key val (wipeE ρ own)) xs of S2 Dd, ⟨xs.length, by simp, Nat.zero_le _, F1, α1, S1, [], [], Step.new hs1 hD, hs1.new hD, nD, upd_same, .nil, by rw [List.drop_zero]; exact a2⟩, ?_⟩
  rintro i m H2 ⟨rfl, hi, F2, α2, S2', kvs, u, st2, hs2, np2, hp2, ru, hgo⟩
  have stay : ∀ {F3 α3 H3}, Step F2 α2 H2 F3 α3 H3 → H3 Dd = some (.dK kvs) ∧ Dd ∉ α3 := fun {F3 α3 H3} st => ⟨st.hp Dd _ hp2 np2, fun m => by
    obtain ⟨more, ea, hm⟩ := st.ap
    rw [ea] at m
    rcases List.mem_append.mp m with m | m
    · exact np2 m
    · exact (hm Dd m).no hp2⟩
  by_cases hlt : i < xs.length
  · have hx : xs[i]? = some xs[i] := List.getElem?_eq_getElem hlt
    rw [dropCons hx] at hgo
    refine .inr ⟨wk.go i F2 α2 H2 S2' st2 hs2 hlt, fun H' => ∃ m', m' < xs.length - i ∧ DcW X.K Θ F1 α1 H1 (dcGo bd cond key val (wipeE ρ own)) xs of S2 Dd (i + 1) m' H', fun H' q => q, fun y H3 hy => ?_⟩
    obtain ⟨dx, F3, hdx, st3, hs3, rdx⟩ := wk.yld i F2 α2 H2 S2' y H3 st2 hs2 hy hlt
    rw [hx] at hdx
    cases hdx
    unfold dcGo at hgo
    split at hgo
    · cases hgo
    rename_i ρ1 eb
    have en3 : EnR X.K F3 α2 H3 (L2.wipe σ own) (wipeE ρ own) := ((h2.mono h1 st1).mono hs1 (st2.trans st3)).wipe own
    refine sg F3 α2 H3 S2' _ _ y xs[i] ρ1 _ hs3 en3 rdx eb fun σ4 en4 w4 _ => ⟨?_, ?_⟩
    · rw [w4, wipe_sub fun _ m => m]
    split at hgo
    · cases hgo
    · rename_i S4 ec
      refine ⟨F3, α2, ρ1, S2', _, _, hs3, en4, ec, fun F5 α5 H5 st5 hs5 => iteF ?_⟩
      have st : Step F2 α2 H2 F5 α5 H5 := st3.trans st5
      exact ⟨xs.length - (i + 1), by omega, rfl, hlt, F5, α5, S4, kvs, u, st2.trans st, hs5, (stay st).2, (stay st).1, obR_mono hs2 st ru, hgo⟩
    · rename_i S4 ec
      split at hgo
      · rename_i mk S5 ek
        split at hgo
        · rename_i yv S6 ev
          split at hgo
          · rename_i hz
            refine ⟨F3, α2, ρ1, S2', _, _, hs3, en4, ec, fun F5 α5 H5 st5 hs5 => iteT ?_⟩
            refine ⟨F5, α5, ρ1, S4, _, _, hs5, en4.mono hs3 st5, ek, fun w F6 α6 H6 st6 hs6 rw6 => ?_⟩
            refine ⟨F6, α6, ρ1, S5, _, _, hs6, (en4.mono hs3 st5).mono hs5 st6, ev, fun z F7 α7 H7 st7 hs7 rz7 => ?_⟩
            cases rw6
            have st : Step F2 α2 H2 F7 α7 H7 := ((st3.trans st5).trans st6).trans st7
            have hp7 := (stay st).1
            have np7 := (stay st).2
            have kk : ∀ a o, H7 a = some o → (∀ kvs, o ≠ .dK kvs) → upd H7 Dd (.dK (putK kvs (Sum.inr mk) z)) a = some o := fun a o h n => by
              rw [upd_ne (fun z => by rw [z, hp7] at h; exact n _ (Option.some.inj h).symm)]; exact h
            refine ⟨kvs, Sum.inr mk, rfl, hp7, by rw [ob_len ru]; exact hz, xs.length - (i + 1), by omega, rfl, hlt, F7, α7, S6, putK kvs (Sum.inr mk) z, obPut u mk yv, (st2.trans st).swD (.of hD) hp7 np7, hs7.swD hp7 np7, np7, upd_same, obR_sw kk (obR_put rz7 (obR_mono hs2 st ru)), hgo⟩
          · cases hgo
        · cases hgo
      · cases hgo
  · have ei : i = xs.length := by omega
    subst ei
    rw [List.drop_length] at hgo
    cases hgo
    refine .inl ⟨wk.stop _ F2 α2 H2 _ st2 hs2 (Nat.le_refl _), ?_⟩
    refine k (.ref Dd) F2 (α2 ++ [Dd]) H2 ((st1.trans st2).addD (st1.backN hD) hp2) (hs2.addD hp2 np2 ru) (.obj ?_)
    rw [← hs2.len, List.getElem?_append_right (Nat.le_refl _), Nat.sub_self]; rfl
end
end J

set_option maxHeartbeats 4000000
namespace J
open PySem PySem.Spec PyProof.Rows L2
open AutoSeq1 (wpAny_loadPart')
/-! ### enumerate(a tuple) -/
section
variable {prog : Program} {w : World} {A : Around} {E : Value → Shared → Prop} {s : Shared}
theorem nextOf_tup {j t : Addr} {n : Nat} {zs : Array Value} {y : Value} {Q : Value → Shared → Prop} (ij : s.heap.IsTupleIter j t n) (tt : s.heap.IsTuple t zs) (zy : zs[n]? = some y)
    (go : ∀ h', h'.IsTupleIter j t (n + 1) → Heap.SameBut j s.heap h' → Q y { s with heap := h' }) : wpAny (model prog w) A (Builtin.SmallTypes.nextOf (.ref j)) Q E s := by
  obtain ⟨u, uo, uc, ud⟩ := id ij
  obtain ⟨v, vo, _, nv, vd⟩ := tt
  show wpAny (model prog w) A (Builtin.SmallTypes.nextOf (.ref j)) Q E s
  delta Builtin.SmallTypes.nextOf
  refine wpAny_bind (wpAny_callSpecial?_slot (name := Str.ofString "__next__") ij.typeIs F.slot_tuple_iterator_next (wpAny_call_entry F.slot_tuple_iterator_next ij.typeIs F.entry_tuple_iterator_next ?_ (F.args_tuple_iterator_next_1 _)))
  show wpAny _ _ (field (.ref j) 0 >>= _) _ _ s
  refine wpAny_bind (wpAny_field uo ud (x := .ref t) rfl ?_)
  show wpAny _ _ (if (Value.ref t == Value.none) = true then _ else _) _ _ (id s)
  rw [if_neg (fun z => Bool.false_ne_true (show (Value.ref t == Value.none) = true from z))]
  show wpAny _ _ (field (.ref j) 1 >>= _) _ _ s
  refine wpAny_bind (wpAny_field uo ud (x := .int n 0) rfl ?_)
  show wpAny _ _ (seqItems? (.ref t) >>= _) _ _ (id s)
  refine wpAny_bind (wpAny_seqItems vo vd ?_)
  simp only [Int.toNat_natCast, zy]
  refine wpAny_bind (wpAny_setField uo ud (by simp) (wpAny_pure ⟨y, rfl, wpAny_pure (go _ ?_ (Heap.SameBut.update ..))⟩))
  refine ⟨_, Heap.get?_update_self _ uo (Obj.isFreed_of_fields (Obj.data_mapFields ud _)), (Obj.cls_mapFields ..).trans uc, ?_⟩
  rw [Obj.data_mapFields ud]
  simp [rawInt]
theorem nextOf_tupEnd {j t : Addr} {n : Nat} {zs : Array Value} {Q : Value → Shared → Prop} (hh : A.handled = none) (ij : s.heap.IsTupleIter j t n) (tt : s.heap.IsTuple t zs) (zy : zs[n]? = none)
    (go : ∀ h' e, Heap.ExtBut j s.heap h' → (∃ o, h'.get? e = some o ∧ o.cls = .type "StopIteration") → E (.ref e) { s with heap := h' }) : wpAny (model prog w) A (Builtin.SmallTypes.nextOf (.ref j)) Q E s := by
  obtain ⟨u, uo, uc, ud⟩ := id ij
  obtain ⟨v, vo, _, nv, vd⟩ := tt
  show wpAny (model prog w) A (Builtin.SmallTypes.nextOf (.ref j)) Q E s
  delta Builtin.SmallTypes.nextOf
  refine wpAny_bind (wpAny_callSpecial?_slot (name := Str.ofString "__next__") ij.typeIs F.slot_tuple_iterator_next (wpAny_call_entry F.slot_tuple_iterator_next ij.typeIs F.entry_tuple_iterator_next ?_ (F.args_tuple_iterator_next_1 _)))
  show wpAny _ _ (field (.ref j) 0 >>= _) _ _ s
  refine wpAny_bind (wpAny_field uo ud (x := .ref t) rfl ?_)
  show wpAny _ _ (if (Value.ref t == Value.none) = true then _ else _) _ _ (id s)
  rw [if_neg (fun z => Bool.false_ne_true (show (Value.ref t == Value.none) = true from z))]
  show wpAny _ _ (field (.ref j) 1 >>= _) _ _ s
  refine wpAny_bind (wpAny_field uo ud (x := .int n 0) rfl ?_)
  show wpAny _ _ (seqItems? (.ref t) >>= _) _ _ (id s)
  refine wpAny_bind (wpAny_seqItems vo vd ?_)
  simp only [Int.toNat_natCast, zy]
  refine wpAny_bind (wpAny_rule (wpAny_bind (wpAny_setField uo ud (by simp) ?_)))
  show wpAny _ _ (newExc (.type "StopIteration") ([] : List Value) >>= _) _ _ _
  refine wpAny_bind (m := newExc (.type "StopIteration") []) ?_
  simp only [newTuple, newExc]
  refine wpAny_bind (wpAny_newObj_type (?_) (by size_fits))
  refine wpAny_bind (m := firstArgMember _ _) (wpAny_of_eq (a := Value.none) (by first | (simp only [firstArgMember]; rfl) | rfl) ?_)
  refine wpAny_newObj_type (?_) (by size_fits)
  simp only [raiseNew]
  refine wpAny_bind (wpAny_handled (?_))
  first | rw [hh] | rw [show A.in1.handled = none from (hh)]
  refine wpAny_bind (wpAny_pure (wpAny_throw (?_)))
  exact go _ _ (((Heap.SameBut.update ..).extBut.push _).push _) ⟨_, Heap.get?_push_size _ rfl, rfl⟩
/-- the iterator j hands out y and stands at j' behind it: what enumerate's turn is, whatever j walks -/
theorem enum_turn {e j : Addr} {n : Nat} {y old : Value} {P : Heap → Prop} {Q : Value → Shared → Prop} (he : IsEnum s.heap e j n old) (ne : e ≠ j) (nx : ∀ {Q : Value → Shared → Prop} {E : Value → Shared → Prop} {A : Around}, (∀ h', P h' → Heap.SameBut j s.heap h' → Q y { s with heap := h' }) → wpAny (model prog w) A (Builtin.SmallTypes.nextOf (.ref j)) Q E s)
    (pk : ∀ h h', P h → (∀ b o, b ≠ e → h.get? b = some o → h'.get? b = some o) → P h')
    (go : ∀ h', IsEnumOut h' e j ((n : Int) + 1) y s.heap.objs.size → P h' → h'.get? s.heap.objs.size = some { cls := .type "tuple", data := .seq #[.int n s.toks, y] } → h'.objs.size = s.heap.objs.size + 1 →
      (∀ b o, b ≠ e → b ≠ j → s.heap.get? b = some o → h'.get? b = some o) → Q (.ref s.heap.objs.size) { s with heap := h', toks := s.toks + 1 }) :
    wpAny (model prog w) A (Builtin.«enumerate.__next__» ⟨[.ref e], []⟩) (fun fin s' => ∃ v, fin = .done (.ret v) ∧ Q v s') E s := by
  obtain ⟨h0, g0, d0, t0, o0⟩ := s
  show wpAny _ _ (field (.ref e) 2 >>= _) _ _ (id _)
  refine wpAny_bind (wpAny_field he rfl (x := .ref j) rfl (?_))
  refine wpAny_bind (nx fun k1 p1 s1 => ?_)
  replace s1 : Heap.SameBut j h0 k1 := s1
  have e1 : IsEnum k1 e j n old := (s1.2 e ne).trans he
  show wpAny _ _ (field (.ref e) 3 >>= _) _ _ ⟨k1, g0, d0, t0, o0⟩
  refine wpAny_bind (wpAny_field e1 rfl (x := rawInt n) rfl ?_)
  show wpAny _ _ (field (.ref e) 4 >>= _) _ _ ⟨k1, g0, d0, t0, o0⟩
  refine wpAny_bind (wpAny_field e1 rfl (x := .none) rfl ?_)
  show wpAny _ _ (mkInt n >>= _) _ _ ⟨k1, g0, d0, t0, o0⟩
  refine wpAny_bind (wpAny_mkInt (?_))
  show wpAny _ _ (setField (.ref e) 3 (rawInt ((n : Int) + 1)) >>= _) _ _ ⟨k1, g0, d0, t0 + 1, o0⟩
  refine wpAny_bind (wpAny_setField_rec e1 (by simp) fun k2 e2 s2 => ?_)
  replace s2 : Heap.SameBut e k1 k2 := s2
  replace e2 : IsEnum k2 e j ((n : Int) + 1) old := e2
  show wpAny _ _ (setField (.ref e) 4 .none >>= _) _ _ ⟨k2, g0, d0, t0 + 1, o0⟩
  refine wpAny_bind (wpAny_setField_rec e2 (by simp) fun k3 e3 s3 => ?_)
  replace s3 : Heap.SameBut e k2 k3 := s3
  replace e3 : IsEnum k3 e j ((n : Int) + 1) old := e3
  show wpAny _ _ (newTuple [.int n t0, y] >>= _) _ _ ⟨k3, g0, d0, t0 + 1, o0⟩
  refine wpAny_bind (wpAny_newTuple (?_))
  have e4 : IsEnum (k3.push { cls := .type "tuple", data := .seq #[.int n t0, y] }) e j ((n : Int) + 1) old := Heap.get?_push_of_some _ e3
  have sz : k3.objs.size = h0.objs.size := by rw [s3.1, s2.1, s1.1]
  have p4 : P (k3.push { cls := .type "tuple", data := .seq #[.int n t0, y] }) := pk k1 _ p1 fun b o hb q => Heap.get?_push_of_some _ (s3.extBut b o hb (s2.extBut b o hb q))
  have el : e < h0.objs.size := Heap.lt_size he
  have t4 : (k3.push { cls := .type "tuple", data := .seq #[.int n t0, y] }).get? h0.objs.size = some { cls := .type "tuple", data := .seq #[.int n t0, y] } := by rw [← sz]; exact Heap.get?_push_size _ rfl
  have z4 : (k3.push { cls := .type "tuple", data := .seq #[.int n t0, y] }).objs.size = h0.objs.size + 1 := by rw [Heap.size_push, sz]
  have k4 : ∀ b o, b ≠ e → b ≠ j → h0.get? b = some o → (k3.push { cls := .type "tuple", data := .seq #[.int n t0, y] }).get? b = some o := fun b o b1 b2 q => Heap.get?_push_of_some _ (s3.extBut b o b1 (s2.extBut b o b1 (s1.extBut b o b2 q)))
  generalize k3.push { cls := .type "tuple", data := .seq #[.int n t0, y] } = kk at e4 p4 t4 z4 k4 ⊢
  show wpAny _ _ (Builtin.SmallTypes.ownedTupleIsFree (.ref e) >>= _) _ _ ⟨kk, g0, d0, t0 + 1, o0⟩
  rw [sz]
  refine wpAny_bind (m := Builtin.SmallTypes.ownedTupleIsFree (.ref e)) ?_
  delta Builtin.SmallTypes.ownedTupleIsFree
  refine wpAny_bind (wpAny_field e4 rfl (x := .none) rfl (wpAny_pure (?_)))
  simp only [if_true]
  refine wpAny_bind (wpAny_rule (?_))
  refine wpAny_bind (wpAny_field e4 rfl (x := old) rfl (?_))
  refine wpAny_bind (wpAny_setField_rec e4 (by simp) fun k5 e5 s5 => ?_)
  replace s5 : Heap.SameBut e kk k5 := s5
  replace e5 : IsEnum k5 e j ((n : Int) + 1) y := e5
  show wpAny _ _ (Builtin.SmallTypes.ownedTupleHandOut (.ref e) (.ref h0.objs.size) >>= _) _ _ ⟨k5, g0, d0, t0 + 1, o0⟩
  refine wpAny_bind (m := Builtin.SmallTypes.ownedTupleHandOut (.ref e) (.ref h0.objs.size)) ?_
  delta Builtin.SmallTypes.ownedTupleHandOut
  refine wpAny_bind (wpAny_setField_rec e5 (by simp) fun k6 e6 s6 => ?_)
  replace s6 : Heap.SameBut e k5 k6 := s6
  replace e6 : IsEnumOut k6 e j ((n : Int) + 1) y h0.objs.size := e6
  refine wpAny_setField_rec e6 (by simp) fun k7 e7 s7 => ?_
  replace s7 : Heap.SameBut e k6 k7 := s7
  replace e7 : IsEnumOut k7 e j ((n : Int) + 1) y h0.objs.size := e7
  have up : ∀ b o, b ≠ e → kk.get? b = some o → k7.get? b = some o := fun b o hb q => s7.extBut b o hb (s6.extBut b o hb (s5.extBut b o hb q))
  exact wpAny_bind (wpAny_letGo (wpAny_pure ⟨_, rfl, go k7 e7 (pk kk k7 p4 up) (up _ _ (Nat.ne_of_gt el) t4) (by rw [s7.1, s6.1, s5.1, z4]) fun b o b1 b2 q => up b o b1 (k4 b o b1 b2 q)⟩))
theorem enumT_item {e j t : Addr} {n : Nat} {zs : Array Value} {y old : Value} {Q : Option Value → Shared → Prop} (he : IsEnum s.heap e j n old) (ij : s.heap.IsTupleIter j t n) (tt : s.heap.IsTuple t zs) (zy : zs[n]? = some y) (ne : e ≠ j)
    (go : ∀ h', IsEnumOut h' e j ((n : Int) + 1) y s.heap.objs.size → h'.IsTupleIter j t (n + 1) → h'.get? s.heap.objs.size = some { cls := .type "tuple", data := .seq #[.int n s.toks, y] } → h'.objs.size = s.heap.objs.size + 1 →
      (∀ b o, b ≠ e → b ≠ j → s.heap.get? b = some o → h'.get? b = some o) → Q (some (.ref s.heap.objs.size)) { s with heap := h', toks := s.toks + 1 }) : wpAny (model prog w) A (pyNext (.ref e)) Q E s := by
  have ty : s.TypeIs (.ref e) "enumerate" := ⟨_, he, rfl⟩
  delta pyNext
  refine wpAny_bind (wpAny_attempt (wpAny_callSpecial?_slot (name := Str.ofString "__next__") ty F.slot_enumerate_next (wpAny_call_entry F.slot_enumerate_next ty F.entry_enumerate_next ?_ (F.args_enumerate_next_1 _))))
  exact enum_turn (P := fun h => h.IsTupleIter j t (n + 1)) he ne (fun {Q E A} k => nextOf_tup ij tt zy k) (fun h h' ⟨o, q, r⟩ k => ⟨o, k j o (Ne.symm ne) q, r⟩) fun h' a b c d k => wpAny_pure (go h' a b c d k)
theorem enumT_end {e j t : Addr} {n : Nat} {zs : Array Value} {old : Value} {Q : Option Value → Shared → Prop} (hh : A.handled = none) (he : IsEnum s.heap e j n old) (ij : s.heap.IsTupleIter j t n) (tt : s.heap.IsTuple t zs) (zy : zs[n]? = none)
    (go : ∀ h', Heap.ExtBut j s.heap h' → Q none { s with heap := h' }) : wpAny (model prog w) A (pyNext (.ref e)) Q E s := by
  have ty : s.TypeIs (.ref e) "enumerate" := ⟨_, he, rfl⟩
  delta pyNext
  refine wpAny_bind (wpAny_attempt (wpAny_callSpecial?_slot (name := Str.ofString "__next__") ty F.slot_enumerate_next (wpAny_call_entry F.slot_enumerate_next ty F.entry_enumerate_next ?_ (F.args_enumerate_next_1 _))))
  show wpAny _ _ (field (.ref e) 2 >>= _) _ _ (id _)
  refine wpAny_bind (wpAny_field he rfl (x := .ref j) rfl (?_))
  refine wpAny_bind (nextOf_tupEnd hh ij tt zy fun h' x a ⟨o, q, c⟩ => ?_)
  exact wpAny_bind (wpAny_isInstance (T := "StopIteration") (b := true) ⟨o, q, c⟩ isSubtype_stop (wpAny_pure (go _ a)))
theorem enumT_new (t : Addr) (zs : Array Value) (n : Nat) (od : Option Addr) (sl : Array (Option Value)) :
    Meets (Builtin.«enumerate.__new__» ⟨[.type "enumerate", .ref t], []⟩) (fun _ R s => s.heap.get? t = some { cls := .type "tuple", dict := od, data := .seq zs n, slots := sl } ∧
      R (.ok (.ret (.ref (s.heap.push { cls := .type "tuple_iterator", data := .fields #[.ref t, .int 0 0] }).objs.size)))
        { s with heap := (s.heap.push { cls := .type "tuple_iterator", data := .fields #[.ref t, .int 0 0] }).push { cls := .type "enumerate", data := .fields #[.none, .bool false, .ref s.heap.objs.size, rawInt 0, .none, .none] } }) := by
  refine .of_wp fun prog w A R s h => ?_
  obtain ⟨h0, g0, d0, t0, o0⟩ := s
  obtain ⟨ht, h⟩ := h
  have hsub := PySem.sub_enumerate
  have hT : Heap.IsTuple (Shared.heap ⟨h0, g0, d0, t0, o0⟩) t zs := ⟨_, ht, rfl, n, rfl⟩
  wp_walk using wpAny_loadPart' ht
  refine wpAny_stack_any fun st => wpAny_pure (?_)
  split
  · rename_i c _ _ _ _ _
    cases (c == Value.type "enumerate")
    · wp_walk using wpAny_loadPart' ht, wpAny_pyIter_tuple hT
      exact ⟨_, rfl, h⟩
    · wp_walk using wpAny_loadPart' ht, wpAny_pyIter_tuple hT
      exact ⟨_, rfl, h⟩
  · wp_walk using wpAny_loadPart' ht, wpAny_pyIter_tuple hT
    exact ⟨_, rfl, h⟩
theorem enumT_call {t : Addr} {zs : Array Value} {Q : Value → Shared → Prop} (hT : s.heap.IsTuple t zs)
    (go : ∀ h', IsEnum h' (s.heap.objs.size + 1) s.heap.objs.size 0 .none → h'.IsTupleIter s.heap.objs.size t 0 → h'.objs.size = s.heap.objs.size + 2 → (∀ b o, s.heap.get? b = some o → h'.get? b = some o) → Q (.ref (s.heap.objs.size + 1)) { s with heap := h' }) :
    wpAny (model prog w) A (call (.type "enumerate") [.ref t]) Q E s := by
  obtain ⟨⟨c, od, dt, sl⟩, ht, hc, n, hd⟩ := hT
  have hc : c = .type "tuple" := hc
  have hd : dt = .seq zs n := hd
  subst hc hd
  refine callType_new F.called_enumerate (by decide) (F.typeCall_enumerate_1 _) (F.newCall_enumerate_1 _) (fun obj => F.args_object_init_2 obj _) F.entry_enumerate_new (enumT_new t zs n od sl) ⟨ht, ?_⟩
  have sz : (s.heap.push { cls := .type "tuple_iterator", data := .fields #[.ref t, .int 0 0] }).objs.size = s.heap.objs.size + 1 := Heap.size_push ..
  refine show _ ∧ _ from ?_
  rw [sz]
  have he : IsEnum ((s.heap.push { cls := .type "tuple_iterator", data := .fields #[.ref t, .int 0 0] }).push { cls := .type "enumerate", data := .fields #[.none, .bool false, .ref s.heap.objs.size, rawInt 0, .none, .none] }) (s.heap.objs.size + 1) s.heap.objs.size 0 .none := by
    have q := Heap.get?_push_size (s.heap.push { cls := .type "tuple_iterator", data := .fields #[.ref t, .int 0 0] }) (o := { cls := .type "enumerate", data := .fields #[.none, .bool false, .ref s.heap.objs.size, rawInt 0, .none, .none] }) rfl
    rw [sz] at q
    exact q
  exact ⟨⟨_, he, rfl⟩, go _ he ⟨_, Heap.get?_push_of_some _ (Heap.get?_push_size _ rfl), rfl, rfl⟩ (by rw [Heap.size_push, sz]) fun b o q => Heap.get?_push_of_some _ (Heap.get?_push_of_some _ q)⟩
end
/-- the tuple at a, each item in a new pair -/
def IteT (K : PySem.W.Frag) (a : Addr) : It :=
  ⟨fun i H => ∃ (xs : List V) (x : V), SqT K H a xs ∧ xs[i]? = some x, fun i H v H' => ∃ T x, v = .ref T ∧ H T = none ∧ H' = upd H T (.tup [.int (i : Nat), x]) ∧ ∀ xs, SqT K H a xs → xs[i]? = some x, fun i H => ∃ xs : List V, SqT K H a xs ∧ xs.length ≤ i⟩
theorem turn_enumT {P : Program} {w : World} {K : PySem.W.Frag} {elts : List Expr} {kk : Nat} {tpos : Pos} (a e j : Addr) :
    Turn P w K (.Tuple elts kk tpos) (IteT K a) [e, j] e (fun i h => (∃ old, IsEnum h e j ((i : Nat) : Int) old) ∧ h.IsTupleIter j a i ∧ e ≠ j) where
  mem := by simp
  obj := fun i h st b hb => by
    obtain ⟨⟨old, he⟩, ⟨o, ho, hc, hd⟩, _⟩ := st
    rcases (show b = e ∨ b = j by simpa using hb) with z | z
    · subst z; exact ⟨_, he, fun v q => nomatch q⟩
    · subst z; exact ⟨o, ho, fun v q => by rw [hd] at q; cases q⟩
  keep := fun i h h' ⟨⟨old, he⟩, hi, hne⟩ k => ⟨⟨old, k e (by simp) _ he⟩, hi.at fun o q => k j (by simp) o q, hne⟩
  item := by
    intro X hP hw hK hc i pins s σ H E I hf st hg
    subst hP hw hK
    obtain ⟨⟨old, he⟩, ij, ne⟩ := st
    obtain ⟨xs, x, hq, hx⟩ := hg
    obtain ⟨its, rv, p, hz⟩ := I.tuple hq
    obtain ⟨u, hu, ru⟩ := rv.get hx
    have el : e < s.heap.objs.size := Heap.lt_size he
    have jl : j < s.heap.objs.size := by obtain ⟨_, q, _⟩ := ij; exact Heap.lt_size q
    refine enumT_item he ij (show s.heap.IsTuple a its.toArray from p) (y := u) (by simpa using hu) ne fun h' ho ij' hT hsz hk => ?_
    refine ⟨_, rfl, wpAny_letOwnedTupleGo_enum (s := { s with heap := h', toks := s.toks + 1 }) ho fun h2 he' sb => ?_⟩
    have hT2 : h2.get? s.heap.objs.size = some { cls := .type "tuple", data := .seq #[.int i s.toks, u] } := (sb.2 _ (Nat.ne_of_gt el)).trans hT
    have new : ObjOk X.prog X.w (upd H s.heap.objs.size (.tup [.int (i : Nat), x])) h2 s.heap.objs.size (.tup [.int (i : Nat), x]) := ⟨two_lineT, [.int i s.toks, u], .cons ⟨_, rfl⟩ (.cons ru .nil), ⟨_, hT2, rfl, _, rfl⟩⟩
    have I1 : Inv X pins σ (upd H s.heap.objs.size (.tup [.int (i : Nat), x])) { s with heap := h2, toks := s.toks + 1 } :=
      I.turnedNew (ch := [e, j]) (fun b ob hb q => (sb.2 b (fun z => hb (by simp [z]))).trans (hk b ob (fun z => hb (by simp [z])) (fun z => hb (by simp [z])) q)) hf (Nat.le_refl _) new
    refine ⟨.ref s.heap.objs.size, _, I1, rfl, ⟨_, x, rfl, I.hok.fresh (Nat.le_refl _), rfl, fun ys hy => by rw [I.tuple_inj hy hq]; exact hx⟩, ⟨⟨u, ?_⟩, ij'.at fun o q => (sb.2 j (Ne.symm ne)).trans q, ne⟩, fun b hb => ?_⟩
    · rw [show ((i + 1 : Nat) : Int) = (i : Int) + 1 by omega]; exact he'
    · have bl : b < s.heap.objs.size := by
        rcases (show b = e ∨ b = j by simpa using hb) with z | z
        · rw [z]; exact el
        · rw [z]; exact jl
      rw [upd_ne (Nat.ne_of_lt bl)]
      exact (hf b hb).1
  done := by
    intro X hP hw hK hc i pins s σ H E I hf st hg
    subst hP hw hK
    obtain ⟨⟨old, he⟩, ij, ne⟩ := st
    obtain ⟨xs, hq, hx⟩ := hg
    obtain ⟨its, rv, p, hz⟩ := I.tuple hq
    obtain ⟨f0, f1, f2, f3, f4, f5⟩ := hf j (by simp)
    have hl := rv.length
    exact enumT_end (I.ok.hd hc) he ij (show s.heap.IsTuple a its.toArray from p) (by simp; omega) fun h' eb => ⟨rfl, I.turned (t' := s.toks) (fun b o hb q => eb b o hb q) f0 f1 f3 f4 f5⟩
  self := fun A i s Q E ⟨⟨_, he⟩, _⟩ h => wpAny_pyIter_enum he h
where two_lineT : (2 : Nat) ≤ sizeLine := two_line
def iEnumT (K : PySem.W.Frag) (ta : TA) : TI := fun σ H R => ta σ H fun vs H1 => ∃ a xs, vs = [.ref a] ∧ SqT K H1 a xs ∧ R (IteT K a) H1
theorem pi_enumT {X : Cx} {e : Expr} {ta : TA} {p pos tpos : Pos} {elts : List Expr} {kk : Nat} (hg : Gl X "enumerate") (hm : X.mg "enumerate" = none) (ha : PA X [e] ta) (hs : starEach [e] X.env = [(false, eval e X.env)] := by rfl) : PI X (.Tuple elts kk tpos) (.Call (.Name "enumerate" p) [e] [] pos) (iEnumT X.K ta) := by
  refine ⟨fun pins s σ H R I h => ?_⟩
  refine Call_ (ld_blt I hg hm boot_enumerate (PyProof.Rows.callWith_type1 (thn (ha.run pos pins s σ H _ I h) fun us s1 ⟨vs, H1, I1, r1, a, xs, ex, hq, q⟩ => ?_) hs rfl))
  subst ex
  cases r1 with
  | cons r rr =>
    cases rr
    cases r
    obtain ⟨its, rv, p', hz⟩ := I1.tuple hq
    refine enumT_call (show s1.heap.IsTuple a its.toArray from p') fun h' he hit hsz hk => wpAny_pyIter_enum he ?_
    have I2 : Inv X pins σ H1 { s1 with heap := h' } := I1.kept (t' := s1.toks) hk
    refine ⟨s1.heap.objs.size + 1, [s1.heap.objs.size + 1, s1.heap.objs.size], _, _, H1, rfl, I2, turn_enumT a (s1.heap.objs.size + 1) s1.heap.objs.size, ⟨⟨.none, he⟩, hit, Nat.succ_ne_self _⟩, fun b hb => ?_, q⟩
    have le : s1.heap.objs.size ≤ b := by
      rcases (show b = s1.heap.objs.size + 1 ∨ b = s1.heap.objs.size by simpa using hb) with z | z
      · rw [z]; exact Nat.le_succ _
      · rw [z]; exact Nat.le_refl _
    exact I1.fpOk le (I1.hok.fresh le)
section
variable {K : PySem.W.Frag} {F F' : Addr → Prop} {α α' : List Addr} {H H' : Hp} {S S' : Store} {X : Cx} {e tg : Expr} {r : EL}
theorem wk_enumT {T : (Addr → Prop) → List Addr → Hp → Prop} {a : Addr} {vs : List V} {items : List D} (h : ∀ F α H S, T F α H → StR K Θ F α H S → SqT K H a vs ∧ RpA K F α H vs items) : Wk K Θ T (IteT K a) (counted items) where
  stop := fun i F α H S t s hi => by
    obtain ⟨h1, h2⟩ := h F α H S t s
    rw [counted_len] at hi
    exact ⟨vs, h1, by rw [h2.length]; exact hi⟩
  go := fun i F α H S t s hi => by
    obtain ⟨h1, h2⟩ := h F α H S t s
    rw [counted_len, ← h2.length] at hi
    exact ⟨vs, vs[i], h1, List.getElem?_eq_getElem hi⟩
  yld := fun i F α H S x H' t s y hi => by
    obtain ⟨h1, h2⟩ := h F α H S t s
    obtain ⟨T1, v, e, hT, e2, q⟩ := y
    subst e e2
    obtain ⟨d, e1, r⟩ := h2.get (q vs h1)
    have st : Step F α H F α (upd H T1 (.tup [.int (i : Nat), v])) := Step.new s hT
    exact ⟨_, F, counted_get e1, st, s.new hT, .tup upd_same (.cons (.int _) (.cons (r.mono s st) .nil))⟩
/-- enumerate of a tuple or a list -/
def iEnA (r : EL) : EL := fun ρ S => match r ρ S with | some ([.tup xs], S1) => some (counted xs, S1) | some ([.lst xs], S1) => some (counted xs, S1) | _ => none
theorem j_enA (raw : PI X tg e (fun σ H R => iEnum X.K (tVs X.K Θ r) σ H R ∨ iEnumT X.K (tVs X.K Θ r) σ H R)) : PI X tg e (iJ X.K Θ (iEnA r)) := pi_weak raw fun σ H R ⟨F, α, ρ, S, d, S', h1, h2, h3, k⟩ => by
  unfold iEnA at h3
  split at h3
  · rename_i xs S1 e1
    cases h3
    refine .inr ⟨F, α, ρ, S, _, _, h1, h2, e1, fun vs F1 α1 H1 st1 hs1 rv => ?_⟩
    cases rv with
    | cons r1 rv =>
      cases rv
      cases r1 with
      | tup hb ra => exact ⟨_, _, rfl, SqT.of hb, k _ F1 α1 H1 st1 hs1 (wk_enumT fun F2 α2 H2 S2 t s => ⟨SqT.of (t.hp _ _ hb (hs1.out hb fun _ z => by cases z) fun ⟨_, z⟩ => by cases z), ra.monoW hs1 t⟩)⟩
  · rename_i xs S1 e1
    cases h3
    refine .inl ⟨F, α, ρ, S, _, _, h1, h2, e1, fun vs F1 α1 H1 st1 hs1 rv => ?_⟩
    cases rv with
    | cons r1 rv =>
      cases rv
      cases r1 with
      | lst f hb ra => exact ⟨_, _, rfl, SqL.of hb, k _ F1 α1 H1 st1 hs1 (wk_enum fun F2 α2 H2 S2 t s => ⟨SqL.of (t.hp _ _ hb (hs1.out hb fun _ z => by cases z) fun _ => f), ra.monoW hs1 t⟩)⟩
  · cases h3
end
end J

set_option maxHeartbeats 4000000
namespace J
open PySem PySem.Spec PyProof.Rows L2 LamX
/-! ### defs as the head tells them -/
def fuelW : Nat := 1000000
/-- what raises nothing, as what may raise -/
def eLift (f : EX) : ER := fun ρ S => match f ρ S with | some (d, S') => some (.ok d, S') | none => none
theorem j_lift {X : Cx} {Θ : TL} {ξ : XE} {e : Expr} {f : EX} (p : PE X e (tV X.K Θ f)) : PE X e (tR X.K Θ ξ (eLift f)) := pe_weak p fun σ H Q ⟨F, α, ρ, S, r, S', h1, h2, h3, k⟩ => by
  unfold eLift at h3
  split at h3
  · cases h3
    exact ⟨F, α, ρ, S, _, _, h1, h2, by assumption, k⟩
  · cases h3
def HereD (K : PySem.W.Frag) (mg : Str → Option Value) (x : Str) (qual : Str) (st : Stmt) (ps : List Str) : Prop := ∃ f fd, FunD K x qual (defArgs st) (defBody st) (defScope st) [] [] f fd ∧ mg x = some (.ref f) ∧ Binds K fd ps []
section
variable {P : Program} {w : World} {K : PySem.W.Frag} {Θ : TL} {mg : Str → Option Value} {base : Heap} {x qual : Str} {st : Stmt} {N ps : List Str} {k : Nat} {g : GS} {fa : Addr} {fd : FuncData}
theorem start_at {F : Addr → Prop} {α : List Addr} {H : Hp} {S : Store} {vs : List V} {ds : List D} (hs : StR K Θ F α H S) (ra : RpA K F α H vs ds) : At K Θ F α H F α H (L2.start N vs) (ds.map Slot.d ++ List.replicate (N.length - ds.length) .un) S := by
  refine ⟨Step.refl hs, hs, ?_, fun i xs a h1 _ => absurd h1 (start_own i xs)⟩
  show EnR K F α H (vs.map some ++ List.replicate (N.length - vs.length) none) _
  rw [ra.length]
  exact enr_start ra
theorem run_nx {F : Addr → Prop} {α : List Addr} {H : Hp} {S : Store} {ds : List D} {d : D} {S' : Store} {Q : VK} {σ : L2.St} {E : XK} (n : Nat) (hn : n = N.length) (at0 : At K Θ F α H F α H σ (ds.map Slot.d ++ List.replicate (n - ds.length) .un) S) (e : runDef n g ds S = some (d, S'))
    (q : ∀ v F' α' H', Step F α H F' α' H' → StR K Θ F' α' H' S' → Rp K F' α' H' v d → Q v H') : tS K Θ ⟨mg, E⟩ F α H g { nx := fun _ H' => Q .non H', rt := Q } σ H := by
  unfold runDef at e
  split at e
  · rename_i d1 S1 e1
    cases e
    exact ⟨F, α, _, S, _, _, at0, e1, fun v F' α' H' st hs' r => q v F' α' H' st hs' r⟩
  · rename_i ρ1 S1 e1
    cases e
    exact ⟨F, α, _, S, _, _, at0, e1, fun σ' F' α' H' sw A' => q _ F' α' H' A'.st A'.sr .non⟩
  · cases e
theorem fd_of {f : Addr} (Fn : FunD K x qual (defArgs st) (defBody st) (defScope st) [] [] f fd) (Sc : FnScope N ps (defScope st))
    (hb : ∀ (cdv : Value) (A : Around) (outer : List PySem.Env) (s : Shared) (H : Hp) (E : XK) (F0 : Addr → Prop) (α0 : List Addr), Room k (A.deeper (envOfC qual (defScope st) s.heap.objs.size f cdv)) →
      PSs (cxOf CX0 P w K mg base N qual (defScope st) f cdv A outer s H E).nox (defBody st) (tS K Θ ⟨mg, fun _ _ _ => False⟩ F0 α0 H g)) : FnOk P w K mg base CX0 (k + 1) f fd ps (spF K Θ (runDef N.length g) ps.length) := by
  refine Fn.ok Sc (fun vs H Q E h => h.1) fun cdv A outer s H vs Q E hr h => ?_
  obtain ⟨hl, F, α, S, ds, d, S', hs, ra, e, q⟩ := h
  exact ⟨_, PSs.nox (hb cdv A outer s H E F α hr), run_nx (E := fun _ _ _ => False) N.length rfl (start_at hs ra) e q⟩
theorem dd_of (hh : HereD K mg x qual st ps) (Sc : FnScope N ps (defScope st))
    (hb : ∀ (fa : Addr) (cdv : Value) (A : Around) (outer : List PySem.Env) (s : Shared) (H : Hp) (E : XK) (F0 : Addr → Prop) (α0 : List Addr), Room k (A.deeper (envOfC qual (defScope st) s.heap.objs.size fa cdv)) →
      PSs (cxOf CX0 P w K mg base N qual (defScope st) fa cdv A outer s H E).nox (defBody st) (tS K Θ ⟨mg, fun _ _ _ => False⟩ F0 α0 H g)) : Does P w K Θ mg base (k + 1) x ps (runDef N.length g) := by
  obtain ⟨f, fd, Fn, hm, hbi⟩ := hh
  refine ⟨f, fd, ?_, hm, Fn.kp, hbi⟩
  refine Fn.ok Sc (fun vs H Q E h => h.1) fun cdv A outer s H vs Q E hr h => ?_
  obtain ⟨hl, F, α, S, ds, d, S', hs, ra, e, q⟩ := h
  exact ⟨_, PSs.nox (hb f cdv A outer s H E F α hr), run_nx (E := fun _ _ _ => False) N.length rfl (start_at hs ra) e q⟩
theorem dd_ofX (hh : HereD K mg x qual st ps) (Sc : FnScope N ps (defScope st))
    (hb : ∀ (fa : Addr) (cdv : Value) (A : Around) (outer : List PySem.Env) (s : Shared) (H : Hp) (E : XK) (F0 : Addr → Prop) (α0 : List Addr), Room k (A.deeper (envOfC qual (defScope st) s.heap.objs.size fa cdv)) →
      PSs (cxOf (L2.CX P w) P w K mg base N qual (defScope st) fa cdv A outer s H E) (defBody st) (tS K Θ ⟨mg, E⟩ F0 α0 H g)) : DoesX P w K Θ mg base (k + 1) x ps (runX N.length g) := by
  obtain ⟨f, fd, Fn, hm, hbi⟩ := hh
  refine ⟨f, fd, ?_, hm, Fn.kp, hbi⟩
  refine Fn.ok Sc (fun vs H Q E h => h.1) fun cdv A outer s H vs Q E hr h => ?_
  obtain ⟨hl, F, α, S, ds, d, S', hs, ra, e, q⟩ := h
  refine ⟨_, hb f cdv A outer s H E F α hr, ?_⟩
  have at0 : At K Θ F α H F α H (L2.start N vs) (ds.map Slot.d ++ List.replicate (N.length - ds.length) .un) S := start_at hs ra
  unfold runX at e
  split at e
  · rename_i d1 S1 e1
    cases e
    exact ⟨F, α, _, S, _, _, at0, e1, q⟩
  · rename_i ρ1 S1 e1
    cases e
    exact ⟨F, α, _, S, _, _, at0, e1, fun σ' F' α' H' sw A' => q _ F' α' H' A'.st A'.sr .non⟩
  · rename_i c1 o1 S1 e1
    cases e
    exact ⟨F, α, _, S, _, _, at0, e1, q⟩
  · cases e
/-- the code value c of a def that makes lambdas: its table is told -/
structure LamV (base : Heap) (mg : Str → Option Value) (Θ : TL) (qn : Str) (c : Value) (cc P : Addr) : Prop where
  code : c = .ref cc
  tab : TabB base mg cc P
  mem : (P, qn) ∈ Θ
  one : ∀ q ∈ Θ, q.1 = P → q.2 = qn
def LamIn (K : PySem.W.Frag) (base : Heap) (mg : Str → Option Value) (Θ : TL) (x qn : Str) : Prop := ∃ f oc od fd osl cc P, mg x = some (.ref f) ∧ K.lookup f = some ⟨oc, od, .func fd, osl⟩ ∧ LamV base mg Θ qn fd.code cc P
theorem dd_ofL {qn : Str} (hh : HereD K mg x qual st ps) (hL : LamIn K base mg Θ x qn) (Sc : FnScope N ps (defScope st))
    (hb : ∀ (fa : Addr) (cdv : Value) (A : Around) (outer : List PySem.Env) (s : Shared) (H : Hp) (E : XK) (F0 : Addr → Prop) (α0 : List Addr) (cc PP : Addr), LamV base mg Θ qn cdv cc PP → Room k (A.deeper (envOfC qual (defScope st) s.heap.objs.size fa cdv)) →
      PSs (cxOf CX0 P w K mg base N qual (defScope st) fa cdv A outer s H E).nox (defBody st) (tS K Θ ⟨mg, fun _ _ _ => False⟩ F0 α0 H g)) : Does P w K Θ mg base (k + 1) x ps (runDef N.length g) := by
  obtain ⟨f, fd, Fn, hm, hbi⟩ := hh
  obtain ⟨f', oc', od', fd', osl', cc, PP, m2, lk2, LV⟩ := hL
  rw [hm] at m2
  cases m2
  refine ⟨f, fd, ?_, hm, Fn.kp, hbi⟩
  obtain ⟨oc, od, dV, kV, doc, pm, an, cdv, ct, osl, rfl, lk, hcd, _, _⟩ := Fn.ex
  rw [lk] at lk2
  have ec : cdv = fd'.code := by
    have e := Option.some.inj lk2
    have e2 : PySem.W.fnOf x qual (defArgs st) (defBody st) (defScope st) dV kV doc pm an cdv ct = fd' := by injection e with _ _ e3 _; injection e3
    rw [← e2]
  rw [← ec] at LV
  refine fn_of lk hcd Sc (fun vs H Q E h => h.1) fun A outer s H vs Q E hr h => ?_
  obtain ⟨hl, F, α, S, ds, d, S', hs, ra, e, q⟩ := h
  exact ⟨_, PSs.nox (hb f cdv A outer s H E F α cc PP LV hr), run_nx (E := fun _ _ _ => False) N.length rfl (start_at hs ra) e q⟩
theorem dd_zero (hh : HereD K mg x qual st ps) (Sc : FnScope N ps (defScope st)) : Does P w K Θ mg base (k + 1) x ps (runDef N.length gNone) :=
  dd_of hh Sc fun fa cdv A outer s H E F0 α0 hr => ⟨fun pins s σ H D I ⟨F, α, ρ, S, o, S', h1, h2, h3⟩ => by cases h2⟩
end
end J

set_option maxHeartbeats 4000000
namespace J
open PySem PySem.Spec PyProof.Rows L2 LamX He
/-! ### an own error class, by a Bool of K -/
def clsB (K : PySem.W.Frag) (C : Addr) : Bool := match K.lookup C with
  | some ⟨.type t, _, .cls cd, sl⟩ => decide (t = "type") && (cd.hasDict && (!cd.hasDel && ((match cd.mro with | .ref C' :: bm => decide (C' = C) && PySem.HandSPX.refsVE bm | _ => false) && (match sl.toList with | [_, _, _, _, some (.builtin n), _] => decide (n = "ValueError.__new__") | _ => false))))
  | _ => false
theorem clsB_ok {K : PySem.W.Frag} {C : Addr} (h : clsB K C = true) : ∃ nm q N bs bm sn sub ab col dd k0 k1 k2 k3 k5, K.lookup C = some (excClassObj nm q C N bs bm true sn sub ab col dd k0 k1 k2 k3 k5 "ValueError.__new__") ∧ PySem.HandSPX.refsVE bm = true := by
  unfold clsB at h
  split at h
  · rename_i t dd cd sl lk
    obtain ⟨h1, h⟩ := ba h
    obtain ⟨h2, h⟩ := ba h
    obtain ⟨h3, h⟩ := ba h
    obtain ⟨h4, h5⟩ := ba h
    have e1 := of_decide_eq_true h1
    subst e1
    split at h4
    · rename_i C' bm em
      obtain ⟨h6, h7⟩ := ba h4
      have e6 := of_decide_eq_true h6
      subst e6
      split at h5
      · rename_i k0 k1 k2 k3 n k5 es
        have e8 := of_decide_eq_true h5
        subst e8
        obtain ⟨nm, bs, mro, ns, qn, hd, sn, sub, ab, col, del⟩ := cd
        dsimp only at h2 h3 em
        subst em
        have e2 : hd = true := h2
        have e3 : del = false := by simpa using h3
        subst e2 e3
        have e9 : sl = #[k0, k1, k2, k3, some (.builtin "ValueError.__new__"), k5] := by
          obtain ⟨l⟩ := sl
          simp only at es
          rw [es]
        subst e9
        exact ⟨nm, qn, ns, bs, bm, sn, sub, ab, col, dd, k0, k1, k2, k3, k5, lk, h7⟩
      · cases h5
    · cases h4
  · cases h
/-- all that is wanted of the error class x with the fields f, g -/
def errB (x f g : Str) (K : PySem.W.Frag) : Bool :=
  clsB K (ga K x) && (eqO (PySem.W.findIn K (.ref (ga K x)) "__setattr__") (some (some (.builtin "object.__setattr__"))) && (decide (PySem.W.subIn K (.ref (ga K x)) (.type "BaseException") = some true) && (decide (PySem.W.typeIn K (.ref (ga K x)) = some (.type "type")) &&
  (PySem.W.keepIn K (.ref (ga K x)) && (eqO (PySem.W.findIn K (.ref (ga K x)) f) (some none) && (eqO (PySem.W.findIn K (.ref (ga K x)) g) (some none) && (eqO (PySem.W.findIn K (.ref (ga K x)) "__init__") (some (some (.ref (ma K (ga K x) "__init__")))) &&
  (decide (PySem.W.typeIn K (.ref (ma K (ga K x) "__init__")) = some (.type "function")) && (xfB K (ga K x) && (decide (PySem.W.exmOne K (.ref (ga K x)) (.ref (ga K x)) = some true) && eqO (PySem.W.nsIn K mainGlobals x) (some (some (.ref (ga K x))))))))))))))
structure ErrK (K : PySem.W.Frag) (x f g : Str) : Prop where
  oex : OexC K (ga K x)
  nf : PySem.W.findIn K (.ref (ga K x)) f = some none
  ng : PySem.W.findIn K (.ref (ga K x)) g = some none
  ini : PySem.W.findIn K (.ref (ga K x)) "__init__" = some (some (.ref (ma K (ga K x) "__init__")))
  tin : PySem.W.typeIn K (.ref (ma K (ga K x) "__init__")) = some (.type "function")
  xf : XfC K (ga K x)
  te : PySem.W.exmOne K (.ref (ga K x)) (.ref (ga K x)) = some true
  glo : PySem.W.nsIn K mainGlobals x = some (some (.ref (ga K x)))
theorem errB_ok {K : PySem.W.Frag} {x f g : Str} (h : errB x f g K = true) : ErrK K x f g := by
  obtain ⟨h1, h⟩ := ba h
  obtain ⟨h2, h⟩ := ba h
  obtain ⟨h3, h⟩ := ba h
  obtain ⟨h4, h⟩ := ba h
  obtain ⟨h5, h⟩ := ba h
  obtain ⟨h6, h⟩ := ba h
  obtain ⟨h7, h⟩ := ba h
  obtain ⟨h8, h⟩ := ba h
  obtain ⟨h9, h⟩ := ba h
  obtain ⟨h10, h⟩ := ba h
  obtain ⟨h11, h12⟩ := ba h
  exact ⟨⟨clsB_ok h1, eqO_ok h2, of_decide_eq_true h3, of_decide_eq_true h4, h5⟩, eqO_ok h6, eqO_ok h7, eqO_ok h8, of_decide_eq_true h9, xfB_ok h10, of_decide_eq_true h11, eqO_ok h12⟩
theorem ErrK.own {P : Program} {w : World} {K : PySem.W.Frag} {mg : Str → Option Value} {base h : Heap} {x f g qual : Str} {params : Arguments} {body : List Stmt} {scope : Scope} {fd : FuncData} (T : ErrK K x f g) (X : K.In h) (G : h.Ns mainGlobals mg)
    (Fn : FunD K "__init__" qual params body scope [] [] (ma K (ga K x) "__init__") fd) (Sc : FnScope ["self", f, g] ["self", f, g] scope)
    (hbi : ∀ (kV doc pm : Value) (an : Option Addr) (cdv ct : Value) (us : List Value), us.length = 3 → bindArgs (PySem.W.fnOf "__init__" qual params body scope .none kV doc pm an cdv ct) ⟨us, []⟩ = pure ((["self", f, g] : List Str).zip us))
    (hb : ∀ (cdv : Value) (A : Around) (outer : List PySem.Env) (s : Shared) (H : Hp) (E : XK), PSs (cxOf CX0 P w K mg base ["self", f, g] qual scope (ma K (ga K x) "__init__") cdv A outer s H E).nox body (tI2 K f g)) : OwnE P w K mg base x f g :=
  ⟨ga K x, _, fd, T.oex, T.ini, T.tin, init2_ok Fn Sc T.oex T.nf T.ng hb, Fn.bindsN hbi, PySem.W.mg_of X G T.glo⟩
theorem ErrK.heard {K : PySem.W.Frag} {mg : Str → Option Value} {h : Heap} {x f g : Str} (T : ErrK K x f g) (X : K.In h) (G : h.Ns mainGlobals mg) : HeardE K mg x f g (ga K x) := ⟨PySem.W.mg_of X G T.glo, T.xf, T.nf, T.ng, T.te⟩
theorem heardD_of {K : PySem.W.Frag} {mg : Str → Option Value} {h : Heap} {x a : Str} {st : Stmt} {fd : FuncData} (X : K.In h) (G : h.Ns mainGlobals mg) (Fn : FunD K x x (defArgs st) (defBody st) (defScope st) [] [] (ga K x) fd) (c : (Fa.glo x).ok K = true) : HeardD K mg x a st (ga K x) := by
  obtain ⟨oc, od, dV, kV, doc, pm, an, cdv, ct, osl, rfl, lk, hcd, hD, hK⟩ := Fn.ex
  rcases hD with ⟨_, rfl⟩ | ⟨e, _⟩
  · exact ⟨glo_ok X G c, Fn.kp, oc, od, kV, doc, pm, an, cdv, ct, osl, lk, hcd⟩
  · exact absurd rfl e
theorem hereD_of {K : PySem.W.Frag} {mg : Str → Option Value} {h : Heap} {x : Str} {st : Stmt} {ps : List Str} {fd : FuncData} (X : K.In h) (G : h.Ns mainGlobals mg) (Fn : FunD K x x (defArgs st) (defBody st) (defScope st) [] [] (ga K x) fd) (c : (Fa.glo x).ok K = true)
    (hbi : ∀ (kV doc pm : Value) (an : Option Addr) (cdv ct : Value) (us : List Value), us.length = ps.length → bindArgs (PySem.W.fnOf x x (defArgs st) (defBody st) (defScope st) .none kV doc pm an cdv ct) ⟨us, []⟩ = pure (ps.zip us)) : HereD K mg x x st ps :=
  ⟨ga K x, fd, Fn, glo_ok X G c, Fn.bindsN hbi⟩
/-- the tables of the defs that make lambdas -/
def lamQ (x : Str) : Str := x ++ ".<locals>." ++ "<lambda>"
def theta (tf : List Str) (K : PySem.W.Frag) : TL := tf.map fun x => ((cT K (x, none)).2, lamQ x)
def tabsNd (tf : List Str) (K : PySem.W.Frag) : Bool := decide ((tf.map fun x => (cT K (x, none)).2).Nodup)
theorem nodup_get {β : Type} {f : Str → β} : ∀ {l : List Str}, (l.map f).Nodup → ∀ {x y : Str}, x ∈ l → y ∈ l → f x = f y → x = y
  | [], _, x, _, hx, _, _ => by cases hx
  | a :: l, h, x, y, hx, hy, e => by
    rw [List.map_cons, List.nodup_cons] at h
    cases hx with
    | head => cases hy with
      | head => rfl
      | tail _ hy => exact (h.1 (List.mem_map.mpr ⟨y, hy, e.symm⟩)).elim
    | tail _ hx => cases hy with
      | head => exact (h.1 (List.mem_map.mpr ⟨x, hx, e⟩)).elim
      | tail _ hy => exact nodup_get h.2 hx hy e
theorem lamIn_of {K : PySem.W.Frag} {mg : Str → Option Value} {h base : Heap} {tf : List Str} {x : Str} {st : Stmt} {fd : FuncData} (X : K.In h) (G : h.Ns mainGlobals mg) (Fn : FunD K x x (defArgs st) (defBody st) (defScope st) [] [] (ga K x) fd) (c : (Fa.glo x).ok K = true)
    (nd : tabsNd tf K = true) (hx : x ∈ tf) (TB : TabB base mg (cT K (x, none)).1 (cT K (x, none)).2) : LamIn K base mg (theta tf K) x (lamQ x) := by
  obtain ⟨oc, od, dV, kV, doc, pm, an, cdv, ct, osl, rfl, lk, hcd, _, _⟩ := Fn.ex
  obtain ⟨cc, ec⟩ := codeIn_ref hcd
  have e1 : codeOf K (x, none) = cc := codeOf_eq (p := (x, none)) lk ec
  refine ⟨ga K x, oc, od, _, osl, cc, (cT K (x, none)).2, glo_ok X G c, lk, ec, ?_, List.mem_map.mpr ⟨x, hx, rfl⟩, fun q hq e => ?_⟩
  · rw [← e1]; exact TB
  · obtain ⟨y, hy, rfl⟩ := List.mem_map.mp hq
    have e2 := nodup_get (of_decide_eq_true nd) hy hx e
    rw [e2]
theorem tabs_nil {tf : List Str} {K : PySem.W.Frag} {H : Hp} (h : ∀ p ∈ tf.map fun x => cT K (x, none), H p.2 = some (.tbl #[])) : LamX.Tabs (theta tf K) H := fun q hq => by
  obtain ⟨x, hx, rfl⟩ := List.mem_map.mp hq
  exact TabS.nil (h _ (List.mem_map.mpr ⟨x, hx, rfl⟩))
theorem lawAt_of {l : PySem.W.OpenLaw} {w : World} {K : PySem.W.Frag} {mg : Str → Option Value} {h : Heap} {fa : List Fa} {fn : List DefD} {ts : List Tab} {tf : List Str} {ex : PySem.W.Frag → Bool} {x : Str} {st : Stmt} {fd : FuncData} {k : Nat} {f : FN}
    (c : SaysX fa fn ts (tf.map fun x => (x, none)) ex w h K) (X : K.In h) (Fn : FunD K "law" "law" (defArgs st) (defBody st) (defScope st) [] [] (ga K "law") fd)
    (hbi : ∀ (kV doc pm : Value) (an : Option Addr) (cdv ct : Value) (us : List Value), us.length = 1 → bindArgs (PySem.W.fnOf "law" "law" (defArgs st) (defBody st) (defScope st) .none kV doc pm an cdv ct) ⟨us, []⟩ = pure ([x].zip us))
    (true_ : ∀ ns : List Int, ns.length ≤ 63 → ∃ S', f [.frz (ns.map D.int)] [] = some (.bl true, S'))
    (F : ∀ base : Heap, K.In base → base.Ns mainGlobals mg → (∀ y ∈ tf, TabB base mg (cT K (y, none)).1 (cT K (y, none)).2) → FnOk l.prog w K mg base CX0 k (ga K "law") fd [x] (spF K (theta tf K) f 1)) : LawAtS l w K CX0 k 63 x mg (ga K "law") h := by
  refine ⟨fd, tf.map fun x => cT K (x, none), spF K (theta tf K) f 1, fun p hp => ?_, fun p hp => ?_, fun p hp => ?_, fun s u => Fn.bindsA (ps := [x]) hbi s [u] rfl, fun H a ns hl _ hT hS => law_sp hS (tabs_nil hT) (true_ ns hl), fun base kb hb tb => F base kb hb fun y hy => tb _ (List.mem_map.mpr ⟨y, hy, rfl⟩)⟩
  · obtain ⟨y, hy, rfl⟩ := List.mem_map.mp hp
    exact c.empty _ (List.mem_map.mpr ⟨y, hy, rfl⟩)
  · obtain ⟨y, hy, rfl⟩ := List.mem_map.mp hp
    exact c.out _ (List.mem_map.mpr ⟨y, hy, rfl⟩)
  · obtain ⟨y, hy, rfl⟩ := List.mem_map.mp hp
    exact PySem.W.codeHd_of_K X (c.hd _ (List.mem_map.mpr ⟨y, hy, rfl⟩))
end J

set_option maxHeartbeats 4000000
namespace J
open PySem PySem.Spec PyProof.Rows L2
/-! ### readings that leave the store -/
theorem lcGo_map {bd : BD} {cond : ET} {elt : EX} {ρ : Env} {S : Store} (g : D → D) : ∀ xs : List D, (∀ x ∈ xs, ∃ ρ1, bd x ρ = some ρ1 ∧ cond ρ1 S = some (true, S) ∧ elt ρ1 S = some (g x, S)) → lcGo bd cond elt ρ xs S = some (xs.map g, S)
  | [], _ => rfl
  | x :: r, h => by
    obtain ⟨ρ1, h1, h2, h3⟩ := h x List.mem_cons_self
    unfold lcGo
    rw [h1]; simp only; rw [h2]; simp only; rw [h3]; simp only; rw [lcGo_map g r fun y m => h y (List.mem_cons_of_mem _ m)]; rfl
theorem lcGo_filter {bd : BD} {cond : ET} {elt : EX} {ρ : Env} {S : Store} (p : D → Bool) : ∀ xs : List D, (∀ x ∈ xs, ∃ ρ1, bd x ρ = some ρ1 ∧ cond ρ1 S = some (p x, S) ∧ elt ρ1 S = some (x, S)) → lcGo bd cond elt ρ xs S = some (xs.filter p, S)
  | [], _ => rfl
  | x :: r, h => by
    obtain ⟨ρ1, h1, h2, h3⟩ := h x List.mem_cons_self
    unfold lcGo
    rw [h1]; simp only; rw [h2]
    have ih := lcGo_filter p r fun y m => h y (List.mem_cons_of_mem _ m)
    cases q : p x
    · simp only; rw [ih, List.filter_cons_of_neg (by simp [q])]
    · simp only; rw [h3]; simp only; rw [ih, List.filter_cons_of_pos q]
theorem lComp_map {vs : List Nat} {l : EL} {bd : BD} {cond : ET} {elt : EX} {ρ : Env} {S : Store} {xs : List D} (g : D → D) (hl : l ρ S = some (xs, S)) (hz : xs.length ≤ 16777216) (h : ∀ x ∈ xs, ∃ ρ1, bd x (wipeE ρ vs) = some ρ1 ∧ cond ρ1 S = some (true, S) ∧ elt ρ1 S = some (g x, S)) :
    lComp vs l bd cond elt ρ S = some (xs.map g, S) := by
  unfold lComp
  rw [hl]; simp only; rw [lcGo_map g xs h]; simp only
  rw [if_pos (by rw [List.length_map, sizeLine_eq]; exact hz)]
theorem lComp_filter {vs : List Nat} {l : EL} {bd : BD} {cond : ET} {elt : EX} {ρ : Env} {S : Store} {xs : List D} (p : D → Bool) (hl : l ρ S = some (xs, S)) (hz : xs.length ≤ 16777216) (h : ∀ x ∈ xs, ∃ ρ1, bd x (wipeE ρ vs) = some ρ1 ∧ cond ρ1 S = some (p x, S) ∧ elt ρ1 S = some (x, S)) :
    lComp vs l bd cond elt ρ S = some (xs.filter p, S) := by
  unfold lComp
  rw [hl]; simp only; rw [lcGo_filter p xs h]; simp only
  rw [if_pos (by have := List.length_filter_le p xs; rw [sizeLine_eq]; omega)]
theorem bls_map (p : D → Bool) : ∀ xs : List D, bls? (xs.map fun x => .bl (p x)) = some (xs.map p)
  | [] => rfl
  | x :: r => by rw [List.map_cons, bls?, bls_map p r]; rfl
theorem gAll_map (p : D → Bool) (xs : List D) : gAll [.lst (xs.map fun x => .bl (p x))] = some (.bl (xs.all p)) := by
  show (bls? (xs.map fun x => .bl (p x))).map (fun bs => D.bl (bs.all id)) = _
  rw [bls_map]
  show some (D.bl ((xs.map p).all id)) = _
  rw [List.all_map]; rfl

/-! ### good data: bounded, plain -/
mutual
def good : D → Bool
  | .non => true
  | .bl _ => true
  | .int _ => true
  | .str z => z.cps.all (· < 0x110000) && decide (z.length ≤ 3000)
  | .lst xs => decide (xs.length ≤ 20000) && goods xs
  | .tup xs => decide (xs.length ≤ 20000) && goods xs
  | .frz _ => false
  | .obj _ => false
def goods : List D → Bool
  | [] => true
  | x :: r => good x && goods r
end
mutual
def dpt : D → Nat
  | .lst xs => dpts xs + 1
  | .tup xs => dpts xs + 1
  | .non => 0 | .bl _ => 0 | .int _ => 0 | .str _ => 0 | .frz _ => 0 | .obj _ => 0
def dpts : List D → Nat
  | [] => 0
  | x :: r => max (dpt x) (dpts r)
end
theorem goods_all : ∀ xs : List D, goods xs = true ↔ ∀ x ∈ xs, good x = true
  | [] => by simp [goods]
  | x :: r => by rw [goods, Bool.and_eq_true, goods_all r]; simp
theorem dpts_le {n : Nat} : ∀ xs : List D, dpts xs ≤ n ↔ ∀ x ∈ xs, dpt x ≤ n
  | [] => by simp [dpts]
  | x :: r => by rw [dpts, Nat.max_le, dpts_le r]; simp
mutual
theorem good_py : ∀ d : D, good d = true → ∃ y, toPy d = some y ∧ y.canLay0 = true ∧ y.depth = dpt d
  | .non, _ => ⟨_, rfl, rfl, rfl⟩
  | .bl _, _ => ⟨_, rfl, rfl, rfl⟩
  | .int _, _ => ⟨_, rfl, rfl, rfl⟩
  | .str z, h => ⟨_, rfl, by rw [good, Bool.and_eq_true] at h; exact h.1, rfl⟩
  | .lst xs, h => by
    rw [good, Bool.and_eq_true] at h
    obtain ⟨ys, e, c, p⟩ := goods_py xs h.2
    exact ⟨.list ys, by rw [toPy, e], c, by rw [PyData.depth, p, dpt]⟩
  | .tup xs, h => by
    rw [good, Bool.and_eq_true] at h
    obtain ⟨ys, e, c, p⟩ := goods_py xs h.2
    exact ⟨.tuple ys, by rw [toPy, e], c, by rw [PyData.depth, p, dpt]⟩
  | .frz _, h => by cases h
  | .obj _, h => by cases h
theorem goods_py : ∀ ds : List D, goods ds = true → ∃ ys, toPys ds = some ys ∧ PyData.canLayAll0 ys = true ∧ PyData.depthAll ys = dpts ds
  | [], _ => ⟨_, rfl, rfl, rfl⟩
  | x :: r, h => by
    rw [goods, Bool.and_eq_true] at h
    obtain ⟨y, e, c, p⟩ := good_py x h.1
    obtain ⟨ys, e2, c2, p2⟩ := goods_py r h.2
    exact ⟨y :: ys, by rw [toPys, e, e2], by rw [PyData.canLayAll0, c, c2]; rfl, by rw [PyData.depthAll, p, p2, dpts]⟩
end
theorem shaped_of {y : PyData} (c : y.canLay0 = true) (d : y.depth ≤ 64) : SeqAt.shaped y = true := by
  unfold SeqAt.shaped; rw [c, decide_eq_true d]; rfl
/-- a list of good things against [] -/
theorem gEq_nil {neg : Bool} {xs : List D} (g : goods xs = true) (d : dpts xs ≤ 63) : gEq neg (.lst xs) (.lst []) = some (.bl (if neg then !xs.isEmpty else xs.isEmpty)) := by
  obtain ⟨ys, e, c, p⟩ := goods_py xs g
  unfold gEq
  rw [show toPy (.lst xs) = some (.list ys) by rw [toPy, e]]
  simp only [show toPy (.lst []) = some (.list []) from rfl]
  rw [if_pos ⟨shaped_of c (by rw [PyData.depth]; omega), rfl⟩]
  have : PyData.eqv (.list ys) (.list []) = xs.isEmpty := by
    cases xs with
    | nil => cases e; rfl
    | cons x r =>
      rw [toPys] at e
      split at e
      · cases e; rfl
      · cases e
  rw [this]
def isUnit : D → Bool | .tup [] => true | _ => false
theorem gEq_unit {neg : Bool} {x : D} (g : good x = true) (d : dpt x ≤ 64) : gEq neg x (.tup []) = some (.bl (if neg then !isUnit x else isUnit x)) := by
  obtain ⟨y, e, c, p⟩ := good_py x g
  unfold gEq
  rw [e]
  simp only [show toPy (.tup []) = some (.tuple []) from rfl]
  rw [if_pos ⟨shaped_of c (by omega), rfl⟩]
  have : PyData.eqv y (.tuple []) = isUnit x := by
    cases x with
    | tup xs =>
      cases xs with
      | nil => cases e; rfl
      | cons x r =>
        rw [toPy, toPys] at e
        split at e
        · rename_i ys q
          split at q
          · cases q; cases e; rfl
          · cases q
        · cases e
    | lst xs =>
      rw [toPy] at e
      split at e
      · cases e; rfl
      · cases e
    | non => cases e; rfl
    | bl b => cases e; cases b <;> rfl
    | int i => cases e; rfl
    | str z => cases e; rfl
    | frz _ => cases e
    | obj _ => cases e
  rw [this]
end J

set_option maxHeartbeats 8000000
namespace K04
open PySem PySem.Spec PyProof.Rows L2 J LamX
def top (i : Nat) : Stmt := PySem.Challenge.pw_rebuiltby_k04_parts.main.body.getD i (.Pass ⟨0, 0, 0, 0⟩)
structure Txt (K : PySem.W.Frag) (mg : Str → Option Value) : Prop where
  b_all : mg "all" = none
  b_bool : mg "bool" = none
  b_enumerate : mg "enumerate" = none
  b_int : mg "int" = none
  b_isinstance : mg "isinstance" = none
  b_len : mg "len" = none
  b_list : mg "list" = none
  b_range : mg "range" = none
  b_set : mg "set" = none
  b_sorted : mg "sorted" = none
  b_str : mg "str" = none
  b_sum : mg "sum" = none
  b_tuple : mg "tuple" = none
  c_FIRST_SIGNS : ∃ t, mg "FIRST_SIGNS" = some (.str ("abcdefghijklmnopqrstuvwxyz" : Str) t)
  c_SIGNS : ∃ t, mg "SIGNS" = some (.str ("abcdefghijklmnopqrstuvwxyz0123456789" : Str) t)
  c_LONGEST_NAME : ∃ t, mg "LONGEST_NAME" = some (.int 8 t)
abbrev s__law_heard : Stmt := top 47
theorem jh__law_heard {X : Cx} {Θ : TL} {params : Arguments} {bd : Expr} {scope : Scope} {g CS cc P : Addr} {k n : Nat} {fb : ER} {p pos lpos : Pos} (G : HeardD X.K X.mg "_law_heard" "_law_ask" s__law_heard g) (T : HeardE X.K X.mg "NotUsable" "word" "at" CS) (LV : LamV X.base X.mg Θ (X.env.qual ++ "<lambda>") X.env.code cc P) (hr : Room n X.A) (hkn : k + 2 ≤ n) (L : LamS X.env.scope scope) (hdef : defaultsOf params X.env = ([], []))
    (hbind : ∀ (q : Str) (cl : List (Str × Addr)) (pm cv ctv : Value), bindArgs (PySem.W.kla_fn "<lambda>" q params bd scope cl pm cv ctv) ⟨[], []⟩ = pure [])
    (hb : ∀ (A : Around) (outer : List PySem.Env) (s : Shared) (H : Hp) (E : XK) (f c' : Addr), Room k (A.deeper (lamEnv X scope s.heap.objs.size f c')) → PE (lamCx X A outer s H E scope f c') bd (tR X.K Θ ⟨X.mg, E⟩ fb)) (hg : Gl X "_law_heard") :
    PE X (.Call (.Name "_law_heard" p) [.Lambda params bd scope lpos] [] pos) (tV X.K Θ (eHeard ("NotUsable" : Str) ("gave" : Str) ("NotUsable" : Str) ("word" : Str) ("at" : Str) fb)) :=
  j_heard (e := "e") (an := "_law_ask") (stg := s__law_heard) G T (by decide +kernel) hg (fun _ _ _ _ _ _ us hl => match us, hl with | [_], _ => rfl) ⟨rfl, rfl, rfl, by decide +kernel, rfl, by decide +kernel, by decide +kernel⟩ (.inl (by decide +kernel)) (by decide +kernel) (by decide) (by decide) (by decide +kernel) (by decide) (by decide) rfl LV.tab LV.code LV.mem LV.one hr hkn L hdef hbind hb
abbrev s_is_name : Stmt := top 8
abbrev N_is_name : List Str := ["thing", "sign"]
theorem sc_is_name : FnScope N_is_name ["thing"] (defScope s_is_name) := ⟨rfl, rfl, rfl, by decide +kernel, rfl, by decide +kernel, by decide +kernel⟩
def g_is_name : GS := (sSeq (sIf (tOrJ (tNotJ (tTru (e1 (gIsi .str) (eP 0)))) (tNotJ (tOf (eCh gLe gLe (eC (.int 1)) (aG gLen (aC (eP 0) aN)) (eC (.int 8)))))) (sRet (eC (.bl false))) sNil) (sRet (eAnd (e2 (gIn false) (e2 gIx (eP 0) (eC (.int 0))) (eC (.str ("abcdefghijklmnopqrstuvwxyz" : Str)))) (aG gAll (aC (eL (lComp [1] (iOf (eP 0)) (bName 1) cYes (e2 (gIn false) (eP 1) (eC (.str ("abcdefghijklmnopqrstuvwxyz0123456789" : Str)))))) aN)))))
def f_is_name : FN := runDef 2 g_is_name
theorem ok_is_name {P : Program} {w : World} {K : PySem.W.Frag} {Θ : TL} {mg : Str → Option Value} {base : Heap} (h : HereD K mg "is_name" "is_name" s_is_name ["thing"]) (T : Txt K mg) : Does P w K Θ mg base 1 "is_name" ["thing"] f_is_name :=
  dd_of h sc_is_name fun fa cdv A outer s H E F0 α0 hr => ((j_seq (j_ifS (PW.pt (j_or (j_not (j_tru (vw (j_isi (T := .str) (pe_callB call_isi (by rfl) T.b_isinstance (by decide +kernel) (pa_cons (j_peek 0 (pv 0)) (pa_cons (pe_bltn (by rfl) T.b_str (by decide +kernel) rfl) pa_nil))))))) (j_or1 (j_not (j_chT sp_ord sp_ord (pt_chain op_leJ op_leJ (vw (j_c pe_int (.int 1))) (vw (j_cb sp_len (pe_callB call_lenJ (by rfl) T.b_len PySem.boot_len (j_acW (j_peek 0 (pv 0)) j_anW)))) (vw (j_gI (by rfl) T.c_LONGEST_NAME)))))))) (j_last (j_ret (j_c pe_bl (.bl false)))) j_nil) (j_last (j_ret (j_andV (j_op sp_in (pe_cmpR (op_inJ (hu65 hr)) (vw (j_op sp_ix (pe_ix ix_seq (j_peek 0 (pv 0)) (vw (j_c pe_int (.int 0))) (fun _ _ => rfl)))) (vw (j_gS (by rfl) T.c_FIRST_SIGNS)) (by with_unfolding_all rfl))) (j_one (j_cb sp_all (pe_callB (cr_all rfl) (by rfl) T.b_all (by decide +kernel) (j_acW (lw (j_comp (sg_name (i := 1) (vs := [1]) (by decide)) (pe_lc (own := [("sign", 1)]) (g := (gName 1)) (tt := tT _ _ cYes) (te := tV _ _ (e2 (gIn false) (eP 1) (eC (.str ("abcdefghijklmnopqrstuvwxyz0123456789" : Str))))) (by rfl) sc_is_name.nd (j_itW (j_peek 0 (pv 0))) (blkOk_by (own := [("sign", 1)]) (N := N_is_name) (sc := (defScope s_is_name)) (by decide +kernel)) (fun _ _ _ _ _ => (pg_name (i := 1) sc_is_name.nd rfl (Or.inl rfl))) (fun _ _ _ _ _ => j_yes) (fun _ _ _ _ _ => (j_op sp_in (pe_cmpR (op_inJ (hu65 hr)) (j_peek 1 (pv 1)) (vw (j_gS (by rfl) T.c_SIGNS)) (by with_unfolding_all rfl))))))) j_anW)))))))) : PSs _ _ (tS _ _ _ F0 α0 H g_is_name))
abbrev s_is_names : Stmt := top 9
abbrev N_is_names : List Str := ["thing", "name"]
theorem sc_is_names : FnScope N_is_names ["thing"] (defScope s_is_names) := ⟨rfl, rfl, rfl, by decide +kernel, rfl, by decide +kernel, by decide +kernel⟩
def g_is_names : GS := (sRet (eAnd (e1 (gIsi .tuple) (eP 0)) (aG gAll (aC (eL (lComp [1] (iOf (eP 0)) (bName 1) cYes (eCall f_is_name (aC (eV 1) aN)))) aN))))
def f_is_names : FN := runDef 2 g_is_names
theorem ok_is_names {P : Program} {w : World} {K : PySem.W.Frag} {Θ : TL} {mg : Str → Option Value} {base : Heap} (h : HereD K mg "is_names" "is_names" s_is_names ["thing"]) (T : Txt K mg) (d_is_name : Does P w K Θ mg base 1 "is_name" ["thing"] f_is_name) : Does P w K Θ mg base 2 "is_names" ["thing"] f_is_names :=
  dd_of h sc_is_names fun fa cdv A outer s H E F0 α0 hr => ((j_last (j_ret (j_andV (j_isi (T := .tuple) (pe_callB call_isi (by rfl) T.b_isinstance (by decide +kernel) (pa_cons (j_peek 0 (pv 0)) (pa_cons (pe_bltn (by rfl) T.b_tuple (by decide +kernel) rfl) pa_nil)))) (j_one (j_cb sp_all (pe_callB (cr_all rfl) (by rfl) T.b_all (by decide +kernel) (j_acW (lw (j_comp (sg_name (i := 1) (vs := [1]) (by decide)) (pe_lc (own := [("name", 1)]) (g := (gName 1)) (tt := tT _ _ cYes) (te := tV _ _ (eCall f_is_name (aC (eV 1) aN))) (by rfl) sc_is_names.nd (j_itW (j_peek 0 (pv 0))) (blkOk_by (own := [("name", 1)]) (N := N_is_names) (sc := (defScope s_is_names)) (by decide +kernel)) (fun _ _ _ _ _ => (pg_name (i := 1) sc_is_names.nd rfl (Or.inl rfl))) (fun _ _ _ _ _ => j_yes) (fun _ _ _ _ _ => (j_callD d_is_name hr (by decide) (by rfl) (j_ac (j_var 1 (pv 1)) j_an) (fun ρ S ds S' z => len_1 z) rfl))))) j_anW))))))) : PSs _ _ (tS _ _ _ F0 α0 H g_is_names))
abbrev s_is_rising : Stmt := top 10
abbrev N_is_rising : List Str := ["rows", "k"]
theorem sc_is_rising : FnScope N_is_rising ["rows"] (defScope s_is_rising) := ⟨rfl, rfl, rfl, by decide +kernel, rfl, by decide +kernel, by decide +kernel⟩
def g_is_rising : GS := (sRet (aG gAll (aC (eL (lComp [1] (iRg1 (aC (e2 (gI0 fun i j => i - j) (aG gLen (aC (eP 0) aN)) (eC (.int 1))) aN)) (bName 1) cYes (e2 gLt (e2 gIx (eP 0) (eP 1)) (e2 gIx (eP 0) (e2 gAdd (eP 1) (eC (.int 1))))))) aN)))
def f_is_rising : FN := runDef 2 g_is_rising
theorem ok_is_rising {P : Program} {w : World} {K : PySem.W.Frag} {Θ : TL} {mg : Str → Option Value} {base : Heap} (h : HereD K mg "is_rising" "is_rising" s_is_rising ["rows"]) (T : Txt K mg) : Does P w K Θ mg base 1 "is_rising" ["rows"] f_is_rising :=
  dd_of h sc_is_rising fun fa cdv A outer s H E F0 α0 hr => ((j_last (j_ret (j_cb sp_all (pe_callB (cr_all rfl) (by rfl) T.b_all (by decide +kernel) (j_acW (lw (j_comp (sg_name (i := 1) (vs := [1]) (by decide)) (pe_lc (own := [("k", 1)]) (g := (gName 1)) (tt := tT _ _ cYes) (te := tV _ _ (e2 gLt (e2 gIx (eP 0) (eP 1)) (e2 gIx (eP 0) (e2 gAdd (eP 1) (eC (.int 1)))))) (by rfl) sc_is_rising.nd (j_iw (j_rg1 (pi_range1 (by rfl) T.b_range (j_acW (vw (j_op sp_I0 (pe_op op_sub (vw (j_cb sp_len (pe_callB call_lenJ (by rfl) T.b_len PySem.boot_len (j_acW (j_peek 0 (pv 0)) j_anW)))) (vw (j_c pe_int (.int 1)))))) j_anW)))) (blkOk_by (own := [("k", 1)]) (N := N_is_rising) (sc := (defScope s_is_rising)) (by decide +kernel)) (fun _ _ _ _ _ => (pg_name (i := 1) sc_is_rising.nd rfl (Or.inl rfl))) (fun _ _ _ _ _ => j_yes) (fun _ _ _ _ _ => (j_op sp_lt (pe_cmpR (op_ltJ hr.units0) (vw (j_op sp_ix (pe_ix ix_seq (j_peek 0 (pv 0)) (j_peek 1 (pv 1)) (fun _ _ => rfl)))) (vw (j_op sp_ix (pe_ix ix_seq (j_peek 0 (pv 0)) (vw (j_op sp_add (pe_op op_addJ (j_peek 1 (pv 1)) (vw (j_c pe_int (.int 1)))))) (fun _ _ => rfl)))) (nomark _))))))) j_anW))))) : PSs _ _ (tS _ _ _ F0 α0 H g_is_rising))
abbrev s_is_set : Stmt := top 11
abbrev N_is_set : List Str := ["thing"]
theorem sc_is_set : FnScope N_is_set ["thing"] (defScope s_is_set) := ⟨rfl, rfl, rfl, by decide +kernel, rfl, by decide +kernel, by decide +kernel⟩
def g_is_set : GS := (sRet (eAnd (eCall f_is_names (aC (eV 0) aN)) (eCall f_is_rising (aC (eV 0) aN))))
def f_is_set : FN := runDef 1 g_is_set
theorem ok_is_set {P : Program} {w : World} {K : PySem.W.Frag} {Θ : TL} {mg : Str → Option Value} {base : Heap} (h : HereD K mg "is_set" "is_set" s_is_set ["thing"]) (T : Txt K mg) (d_is_names : Does P w K Θ mg base 2 "is_names" ["thing"] f_is_names) (d_is_rising : Does P w K Θ mg base 1 "is_rising" ["rows"] f_is_rising) : Does P w K Θ mg base 3 "is_set" ["thing"] f_is_set :=
  dd_of h sc_is_set fun fa cdv A outer s H E F0 α0 hr => ((j_last (j_ret (j_andV (j_callD d_is_names hr (by decide) (by rfl) (j_ac (j_var 0 (pv 0)) j_an) (fun ρ S ds S' z => len_1 z) rfl) (j_one (j_callD d_is_rising hr (by decide) (by rfl) (j_ac (j_var 0 (pv 0)) j_an) (fun ρ S ds S' z => len_1 z) rfl))))) : PSs _ _ (tS _ _ _ F0 α0 H g_is_set))
abbrev s_merged : Stmt := top 13
abbrev N_merged : List Str := ["left", "right", "rows", "i", "j"]
theorem sc_merged : FnScope N_merged ["left", "right"] (defScope s_merged) := ⟨rfl, rfl, rfl, by decide +kernel, rfl, by decide +kernel, by decide +kernel⟩
def g_merged : GS := (sSeq (sSetL 2 (lDisp aN)) (sSeq (sSet (eC (.int 0)) (bName 3)) (sSeq (sSet (eC (.int 0)) (bName 4)) (sSeq (whileGo (tAndJ (tOf (e2 gLt (eP 3) (aG gLen (aC (eP 0) aN)))) (tOf (e2 gLt (eP 4) (aG gLen (aC (eP 1) aN))))) (sIf (tOf (e2 gLt (e2 gIx (eP 1) (eP 4)) (e2 gIx (eP 0) (eP 3)))) (sSeq (sApp 2 (e2 gIx (eP 1) (eP 4))) (sAug (fun i j => i + j) 4 (eC (.int 1)))) (sSeq (sIf (tOf (e2 (gEq false) (e2 gIx (eP 0) (eP 3)) (e2 gIx (eP 1) (eP 4)))) (sAug (fun i j => i + j) 4 (eC (.int 1))) sNil) (sSeq (sApp 2 (e2 gIx (eP 0) (eP 3))) (sAug (fun i j => i + j) 3 (eC (.int 1)))))) fuelW) (sRet (e2 gAdd (e2 gAdd (eP 2) (eSl (eP 0) (oS (eV 3)) oN)) (eSl (eP 1) (oS (eV 4)) oN)))))))
def f_merged : FN := runDef 5 g_merged
theorem ok_merged {P : Program} {w : World} {K : PySem.W.Frag} {Θ : TL} {mg : Str → Option Value} {base : Heap} (h : HereD K mg "merged" "merged" s_merged ["left", "right"]) (T : Txt K mg) : Does P w K Θ mg base 1 "merged" ["left", "right"] f_merged :=
  dd_of h sc_merged fun fa cdv A outer s H E F0 α0 hr => ((j_seq (j_setL (ps_set (i := 2) sc_merged.nd rfl (Or.inl rfl) (j_disp j_an))) (j_seq (j_asg (sg_name (i := 3) (vs := [3]) (by decide)) (ps_set (i := 3) sc_merged.nd rfl (Or.inl rfl) (j_c pe_int (.int 0)))) (j_seq (j_asg (sg_name (i := 4) (vs := [4]) (by decide)) (ps_set (i := 4) sc_merged.nd rfl (Or.inl rfl) (j_c pe_int (.int 0)))) (j_seq (j_while (n := fuelW) (ps_while PassesOwn.never (PW.pt (j_and (j_cmpT sp_lt (pt_cmpR (op_ltJ hr.units0) (j_peek 3 (pv 3)) (vw (j_cb sp_len (pe_callB call_lenJ (by rfl) T.b_len PySem.boot_len (j_acW (j_peek 0 (pv 0)) j_anW)))) (nomark _))) (j_and1 (j_cmpT sp_lt (pt_cmpR (op_ltJ hr.units0) (j_peek 4 (pv 4)) (vw (j_cb sp_len (pe_callB call_lenJ (by rfl) T.b_len PySem.boot_len (j_acW (j_peek 1 (pv 1)) j_anW)))) (nomark _)))))) (j_last (j_ifS (j_cmpT sp_lt (pt_cmpR (op_ltJ hr.units0) (vw (j_op sp_ix (pe_ix ix_seq (j_peek 1 (pv 1)) (j_peek 4 (pv 4)) (fun _ _ => rfl)))) (vw (j_op sp_ix (pe_ix ix_seq (j_peek 0 (pv 0)) (j_peek 3 (pv 3)) (fun _ _ => rfl)))) (nomark _))) (j_seq (j_app (ps_expr (pe_bm PySem.F.plainAttrs_list PySem.F.slot_list_append PySem.F.type_list_append mt_append (pv 2) (pa_cons (j_op sp_ix (pe_ix ix_seq (j_peek 1 (pv 1)) (j_peek 4 (pv 4)) (fun _ _ => rfl))) pa_nil)))) (j_last (j_aug (ps_aug (i := 4) sc_merged.nd rfl (Or.inl rfl) (j_c pe_int (.int 1)) ip_add)))) (j_seq (j_ifS (j_cmpT sp_eq (pt_cmpR (op_eqD hr.units) (vw (j_op sp_ix (pe_ix ix_seq (j_peek 0 (pv 0)) (j_peek 3 (pv 3)) (fun _ _ => rfl)))) (vw (j_op sp_ix (pe_ix ix_seq (j_peek 1 (pv 1)) (j_peek 4 (pv 4)) (fun _ _ => rfl)))) (nomark _))) (j_last (j_aug (ps_aug (i := 4) sc_merged.nd rfl (Or.inl rfl) (j_c pe_int (.int 1)) ip_add))) j_nil) (j_seq (j_app (ps_expr (pe_bm PySem.F.plainAttrs_list PySem.F.slot_list_append PySem.F.type_list_append mt_append (pv 2) (pa_cons (j_op sp_ix (pe_ix ix_seq (j_peek 0 (pv 0)) (j_peek 3 (pv 3)) (fun _ _ => rfl))) pa_nil)))) (j_last (j_aug (ps_aug (i := 3) sc_merged.nd rfl (Or.inl rfl) (j_c pe_int (.int 1)) ip_add))))))))) (j_last (j_ret (j_op sp_add (pe_op op_addJ (vw (j_op sp_add (pe_op op_addJ (j_peek 2 (pv 2)) (vw (j_sl (j_peek 0 (pv 0)) (j_oS (j_var 3 (pv 3))) j_oN))))) (vw (j_sl (j_peek 1 (pv 1)) (j_oS (j_var 4 (pv 4))) j_oN)))))))))) : PSs _ _ (tS _ _ _ F0 α0 H g_merged))
abbrev s_ascending : Stmt := top 14
abbrev N_ascending : List Str := ["rows", "runs", "pairs", "k", "row"]
theorem sc_ascending : FnScope N_ascending ["rows"] (defScope s_ascending) := ⟨rfl, rfl, rfl, by decide +kernel, rfl, by decide +kernel, by decide +kernel⟩
def g_ascending : GS := (sSeq (sSet (eL (lComp [4] (iOf (eP 0)) (bName 4) cYes (eL (lDisp (aC (eV 4) aN))))) (bName 1)) (sSeq (whileGo (tOf (e2 gGt (aG gLen (aC (eP 1) aN)) (eC (.int 1)))) (sSeq (sSet (eL (lComp [3] (iRg3 (aC (eC (.int 0)) (aC (e2 (gI0 fun i j => i - j) (aG gLen (aC (eP 1) aN)) (eC (.int 1))) (aC (eC (.int 2)) aN)))) (bName 3) cYes (eCall f_merged (aC (e2 gIx (eP 1) (eP 3)) (aC (e2 gIx (eP 1) (e2 gAdd (eP 3) (eC (.int 1)))) aN))))) (bName 2)) (sSet (e2 gAdd (eP 2) (eSl (eP 1) (oS (e2 (gI CMulW fun i j => i * j) (eC (.int 2)) (aG gLen (aC (eP 2) aN)))) oN)) (bName 1))) fuelW) (sRet (eIf (tTru (eP 1)) (aG gTuple (aC (e2 gIx (eP 1) (eC (.int 0))) aN)) (eTup aN)))))
def f_ascending : FN := runDef 5 g_ascending
theorem ok_ascending {P : Program} {w : World} {K : PySem.W.Frag} {Θ : TL} {mg : Str → Option Value} {base : Heap} (h : HereD K mg "ascending" "ascending" s_ascending ["rows"]) (T : Txt K mg) (d_merged : Does P w K Θ mg base 1 "merged" ["left", "right"] f_merged) : Does P w K Θ mg base 2 "ascending" ["rows"] f_ascending :=
  dd_of h sc_ascending fun fa cdv A outer s H E F0 α0 hr => ((j_seq (j_asg (sg_name (i := 1) (vs := [1]) (by decide)) (j_setV (i := 0) (ps_set (i := 1) sc_ascending.nd rfl (Or.inr rfl) (j_comp (sg_name (i := 4) (vs := [4]) (by decide)) (pe_lc (own := [("row", 4)]) (g := (gName 4)) (tt := tT _ _ cYes) (te := tV _ _ (eL (lDisp (aC (eV 4) aN)))) (by rfl) sc_ascending.nd (j_itW (j_peek 0 (pv 0))) (blkOk_by (own := [("row", 4)]) (N := N_ascending) (sc := (defScope s_ascending)) (by decide +kernel)) (fun _ _ _ _ _ => (pg_name (i := 4) sc_ascending.nd rfl (Or.inl rfl))) (fun _ _ _ _ _ => j_yes) (fun _ _ _ _ _ => (lv (j_disp (j_ac (j_var 4 (pv 4)) j_an))))))))) (j_seq (j_while (n := fuelW) (ps_while PassesOwn.never (j_cmpT sp_gt (pt_cmpR op_gtJ (vw (j_cb sp_len (pe_callB call_lenJ (by rfl) T.b_len PySem.boot_len (j_acW (j_peek 1 (pv 1)) j_anW)))) (vw (j_c pe_int (.int 1))) (nomark _))) (j_seq (j_asg (sg_name (i := 2) (vs := [2]) (by decide)) (j_setV (i := 0) (j_setC (sg_name (i := 3) (vs := [3]) (by decide)) (ps_setLc (i := 2) (own := [("k", 3)]) (g := (gName 3)) (tt := tT _ _ cYes) (te := tV _ _ (eCall f_merged (aC (e2 gIx (eP 1) (eP 3)) (aC (e2 gIx (eP 1) (e2 gAdd (eP 3) (eC (.int 1)))) aN)))) (by rfl) sc_ascending.nd rfl rfl (sw_true rfl rfl rfl (by decide +kernel)) (j_iw (j_rg3 (pi_range3 (by rfl) T.b_range (j_acW (vw (j_c pe_int (.int 0))) (j_acW (vw (j_op sp_I0 (pe_op op_sub (vw (j_cb sp_len (pe_callB call_lenJ (by rfl) T.b_len PySem.boot_len (j_acW (j_peek 1 (pv 1)) j_anW)))) (vw (j_c pe_int (.int 1)))))) (j_acW (vw (j_c pe_int (.int 2))) j_anW)))))) (blkOk_by (own := [("k", 3)]) (N := N_ascending) (sc := (defScope s_ascending)) (by decide +kernel)) (fun _ _ _ _ _ => (pg_name (i := 3) sc_ascending.nd rfl (Or.inl rfl))) (fun _ _ _ _ _ => j_yes) (fun _ _ _ _ _ => (j_callD d_merged hr (by decide) (by rfl) (j_ac (j_op sp_ix (pe_ix ix_seq (j_peek 1 (pv 1)) (j_peek 3 (pv 3)) (fun _ _ => rfl))) (j_ac (j_op sp_ix (pe_ix ix_seq (j_peek 1 (pv 1)) (vw (j_op sp_add (pe_op op_addJ (j_peek 3 (pv 3)) (vw (j_c pe_int (.int 1)))))) (fun _ _ => rfl))) j_an)) (fun ρ S ds S' z => len_2 z) rfl)))))) (j_last (j_asg (sg_name (i := 1) (vs := [1]) (by decide)) (ps_set (i := 1) sc_ascending.nd rfl (Or.inr rfl) (j_op sp_add (pe_op op_addJ (j_peek 2 (pv 2)) (vw (j_sl (j_peek 1 (pv 1)) (j_oS (j_op sp_I (pe_op op_mulW (vw (j_c pe_int (.int 2))) (vw (j_cb sp_len (pe_callB call_lenJ (by rfl) T.b_len PySem.boot_len (j_acW (j_peek 2 (pv 2)) j_anW))))))) j_oN)))))))))) (j_last (j_ret (j_if (j_tru (j_peek 1 (pv 1))) (j_cb sp_tuple (pe_callTy call_tuple_of (by rfl) T.b_tuple (by decide +kernel) (j_acW (vw (j_op sp_ix (pe_ix ix_seq (j_peek 1 (pv 1)) (vw (j_c pe_int (.int 0))) (fun _ _ => rfl)))) j_anW))) (j_tup j_an)))))) : PSs _ _ (tS _ _ _ F0 α0 H g_ascending))
abbrev s_reached : Stmt := top 15
abbrev N_reached : List Str := ["uses", "start", "found", "ahead", "name"]
theorem sc_reached : FnScope N_reached ["uses", "start"] (defScope s_reached) := ⟨rfl, rfl, rfl, by decide +kernel, rfl, by decide +kernel, by decide +kernel⟩
def g_reached : GS := (sSeq (sSet eNew (bName 2)) (sSeq (sSetL 3 (lListA (eGet (eP 0) (eP 1)))) (sSeq (whileGo (tTru (eP 3)) (sSeq (sPop 4 3) (sIf (tInD true (eP 4) (eP 2)) (sSeq (sPut (eP 2) (eP 4) (eC (.bl true))) (sExtA 3 (eGet (eP 0) (eP 4)))) sNil)) fuelW) (sRet (eV 2)))))
def f_reached : FN := runDef 5 g_reached
theorem ok_reached {P : Program} {w : World} {K : PySem.W.Frag} {Θ : TL} {mg : Str → Option Value} {base : Heap} (h : HereD K mg "reached" "reached" s_reached ["uses", "start"]) (T : Txt K mg) : Does P w K Θ mg base 1 "reached" ["uses", "start"] f_reached :=
  dd_of h sc_reached fun fa cdv A outer s H E F0 α0 hr => ((j_seq (j_asg (sg_name (i := 2) (vs := [2]) (by decide)) (ps_set (i := 2) sc_reached.nd rfl (Or.inl rfl) (j_new pe_dnewK))) (j_seq (j_setL (ps_set (i := 3) sc_reached.nd rfl (Or.inl rfl) (j_listA (pe_callTy (callr_or call_list_of (call_list_dK rfl)) (by rfl) T.b_list (by decide +kernel) (pa_cons (vw (j_get (pe_dget (hu_of hr) (j_peek 0 (pv 0)) (j_peek 1 (pv 1)) (fun _ _ => rfl)))) pa_nil))))) (j_seq (j_while (n := fuelW) (ps_while PassesOwn.never (j_tru (j_peek 3 (pv 3))) (j_seq (j_pop (ps_set (i := 4) sc_reached.nd rfl (Or.inl rfl) (pe_bm0 PySem.F.plainAttrs_list PySem.F.slot_list_pop PySem.F.type_list_pop mt_pop (pv 3)))) (j_last (j_ifS (j_dnotin (hu_of hr) (j_peek 4 (pv 4)) (j_peek 2 (pv 2))) (j_seq (j_put (ps_dput (hu_of hr) (j_peek 2 (pv 2)) (j_peek 4 (pv 4)) (j_c pe_bl (.bl true)) rfl)) (j_last (j_extA (ps_expr (pe_bm PySem.F.plainAttrs_list PySem.F.slot_list_extend PySem.F.type_list_extend mt_extA (pv 3) (pa_cons (vw (j_get (pe_dget (hu_of hr) (j_peek 0 (pv 0)) (j_peek 4 (pv 4)) (fun _ _ => rfl)))) pa_nil)))))) j_nil))))) (j_last (j_ret (j_var 2 (pv 2))))))) : PSs _ _ (tS _ _ _ F0 α0 H g_reached))
abbrev s_names_of : Stmt := top 16
abbrev N_names_of : List Str := ["rows", "row"]
theorem sc_names_of : FnScope N_names_of ["rows"] (defScope s_names_of) := ⟨rfl, rfl, rfl, by decide +kernel, rfl, by decide +kernel, by decide +kernel⟩
def g_names_of : GS := (sRet (aG gTuple (aC (eL (lComp [1] (iOf (eP 0)) (bName 1) cYes (e2 gIx (eP 1) (eC (.int 0))))) aN)))
def f_names_of : FN := runDef 2 g_names_of
theorem ok_names_of {P : Program} {w : World} {K : PySem.W.Frag} {Θ : TL} {mg : Str → Option Value} {base : Heap} (h : HereD K mg "names_of" "names_of" s_names_of ["rows"]) (T : Txt K mg) : Does P w K Θ mg base 1 "names_of" ["rows"] f_names_of :=
  dd_of h sc_names_of fun fa cdv A outer s H E F0 α0 hr => ((j_last (j_ret (j_cb sp_tuple (pe_callTy call_tuple_of (by rfl) T.b_tuple (by decide +kernel) (j_acW (lw (j_comp (sg_name (i := 1) (vs := [1]) (by decide)) (pe_lc (own := [("row", 1)]) (g := (gName 1)) (tt := tT _ _ cYes) (te := tV _ _ (e2 gIx (eP 1) (eC (.int 0)))) (by rfl) sc_names_of.nd (j_itW (j_peek 0 (pv 0))) (blkOk_by (own := [("row", 1)]) (N := N_names_of) (sc := (defScope s_names_of)) (by decide +kernel)) (fun _ _ _ _ _ => (pg_name (i := 1) sc_names_of.nd rfl (Or.inl rfl))) (fun _ _ _ _ _ => j_yes) (fun _ _ _ _ _ => (j_op sp_ix (pe_ix ix_seq (j_peek 1 (pv 1)) (vw (j_c pe_int (.int 0))) (fun _ _ => rfl))))))) j_anW))))) : PSs _ _ (tS _ _ _ F0 α0 H g_names_of))
abbrev s_has_source : Stmt := top 17
abbrev N_has_source : List Str := ["book", "thing"]
theorem sc_has_source : FnScope N_has_source ["book", "thing"] (defScope s_has_source) := ⟨rfl, rfl, rfl, by decide +kernel, rfl, by decide +kernel, by decide +kernel⟩
def g_has_source : GS := (sRet (e2 (gIn false) (eP 1) (eCall f_names_of (aC (e2 gIx (eP 0) (eC (.int 0))) aN))))
def f_has_source : FN := runDef 2 g_has_source
theorem ok_has_source {P : Program} {w : World} {K : PySem.W.Frag} {Θ : TL} {mg : Str → Option Value} {base : Heap} (h : HereD K mg "has_source" "has_source" s_has_source ["book", "thing"]) (T : Txt K mg) (d_names_of : Does P w K Θ mg base 1 "names_of" ["rows"] f_names_of) : Does P w K Θ mg base 2 "has_source" ["book", "thing"] f_has_source :=
  dd_of h sc_has_source fun fa cdv A outer s H E F0 α0 hr => ((j_last (j_ret (j_op sp_in (pe_cmpR (op_inJ (hu65 hr)) (j_peek 1 (pv 1)) (vw (j_callD d_names_of hr (by decide) (by rfl) (j_ac (j_op sp_ix (pe_ix ix_seq (j_peek 0 (pv 0)) (vw (j_c pe_int (.int 0))) (fun _ _ => rfl))) j_an) (fun ρ S ds S' z => len_1 z) rfl)) (by with_unfolding_all rfl))))) : PSs _ _ (tS _ _ _ F0 α0 H g_has_source))
abbrev s_has_party : Stmt := top 18
abbrev N_has_party : List Str := ["book", "thing"]
theorem sc_has_party : FnScope N_has_party ["book", "thing"] (defScope s_has_party) := ⟨rfl, rfl, rfl, by decide +kernel, rfl, by decide +kernel, by decide +kernel⟩
def g_has_party : GS := (sRet (e2 (gIn false) (eP 1) (eCall f_names_of (aC (e2 gIx (eP 0) (eC (.int 1))) aN))))
def f_has_party : FN := runDef 2 g_has_party
theorem ok_has_party {P : Program} {w : World} {K : PySem.W.Frag} {Θ : TL} {mg : Str → Option Value} {base : Heap} (h : HereD K mg "has_party" "has_party" s_has_party ["book", "thing"]) (T : Txt K mg) (d_names_of : Does P w K Θ mg base 1 "names_of" ["rows"] f_names_of) : Does P w K Θ mg base 2 "has_party" ["book", "thing"] f_has_party :=
  dd_of h sc_has_party fun fa cdv A outer s H E F0 α0 hr => ((j_last (j_ret (j_op sp_in (pe_cmpR (op_inJ (hu65 hr)) (j_peek 1 (pv 1)) (vw (j_callD d_names_of hr (by decide) (by rfl) (j_ac (j_op sp_ix (pe_ix ix_seq (j_peek 0 (pv 0)) (vw (j_c pe_int (.int 1))) (fun _ _ => rfl))) j_an) (fun ρ S ds S' z => len_1 z) rfl)) (by with_unfolding_all rfl))))) : PSs _ _ (tS _ _ _ F0 α0 H g_has_party))
abbrev s_need_name : Stmt := top 19
abbrev N_need_name : List Str := ["word", "thing"]
theorem sc_need_name : FnScope N_need_name ["word", "thing"] (defScope s_need_name) := ⟨rfl, rfl, rfl, by decide +kernel, rfl, by decide +kernel, by decide +kernel⟩
def g_need_name : GS := (sIf (tNotJ (tTru (eCall f_is_name (aC (eV 1) aN)))) (sRaise ("NotUsable" : Str) ("word" : Str) ("at" : Str) (aC (eV 0) (aC (e1 gNeg (eC (.int 1))) aN))) sNil)
def f_need_name : FNX := runX 2 g_need_name
theorem ok_need_name {P : Program} {w : World} {K : PySem.W.Frag} {Θ : TL} {mg : Str → Option Value} {base : Heap} (h : HereD K mg "need_name" "need_name" s_need_name ["word", "thing"]) (T : Txt K mg) (d_is_name : Does P w K Θ mg base 1 "is_name" ["thing"] f_is_name) (x_NotUsable : OwnE P w K mg base "NotUsable" "word" "at") : DoesX P w K Θ mg base 3 "need_name" ["word", "thing"] f_need_name :=
  dd_ofX h sc_need_name fun fa cdv A outer s H E F0 α0 hr => ((j_last (j_ifS (j_not (j_tru (vw (j_callD d_is_name hr (by decide) (by rfl) (j_ac (j_var 1 (pv 1)) j_an) (fun ρ S ds S' z => len_1 z) rfl)))) (j_last (j_raise2 x_NotUsable hr (by decide) rfl (takes_of rfl rfl rfl rfl) (by rfl) (j_ac (j_var 0 (pv 0)) (j_ac (j_un sp_neg (pe_un un_neg (vw (j_c pe_int (.int 1))))) j_an)))) j_nil)) : PSs _ _ (tS _ _ _ F0 α0 H g_need_name))
abbrev s_need_source : Stmt := top 20
abbrev N_need_source : List Str := ["word", "book", "thing"]
theorem sc_need_source : FnScope N_need_source ["word", "book", "thing"] (defScope s_need_source) := ⟨rfl, rfl, rfl, by decide +kernel, rfl, by decide +kernel, by decide +kernel⟩
def g_need_source : GS := (sIf (tNotJ (tTru (eCall f_has_source (aC (eV 1) (aC (eV 2) aN))))) (sRaise ("NotUsable" : Str) ("word" : Str) ("at" : Str) (aC (eV 0) (aC (e1 gNeg (eC (.int 1))) aN))) sNil)
def f_need_source : FNX := runX 3 g_need_source
theorem ok_need_source {P : Program} {w : World} {K : PySem.W.Frag} {Θ : TL} {mg : Str → Option Value} {base : Heap} (h : HereD K mg "need_source" "need_source" s_need_source ["word", "book", "thing"]) (T : Txt K mg) (d_has_source : Does P w K Θ mg base 2 "has_source" ["book", "thing"] f_has_source) (x_NotUsable : OwnE P w K mg base "NotUsable" "word" "at") : DoesX P w K Θ mg base 3 "need_source" ["word", "book", "thing"] f_need_source :=
  dd_ofX h sc_need_source fun fa cdv A outer s H E F0 α0 hr => ((j_last (j_ifS (j_not (j_tru (vw (j_callD d_has_source hr (by decide) (by rfl) (j_ac (j_var 1 (pv 1)) (j_ac (j_var 2 (pv 2)) j_an)) (fun ρ S ds S' z => len_2 z) rfl)))) (j_last (j_raise2 x_NotUsable hr (by decide) rfl (takes_of rfl rfl rfl rfl) (by rfl) (j_ac (j_var 0 (pv 0)) (j_ac (j_un sp_neg (pe_un un_neg (vw (j_c pe_int (.int 1))))) j_an)))) j_nil)) : PSs _ _ (tS _ _ _ F0 α0 H g_need_source))
abbrev s_need_party : Stmt := top 21
abbrev N_need_party : List Str := ["word", "book", "thing"]
theorem sc_need_party : FnScope N_need_party ["word", "book", "thing"] (defScope s_need_party) := ⟨rfl, rfl, rfl, by decide +kernel, rfl, by decide +kernel, by decide +kernel⟩
def g_need_party : GS := (sIf (tNotJ (tTru (eCall f_has_party (aC (eV 1) (aC (eV 2) aN))))) (sRaise ("NotUsable" : Str) ("word" : Str) ("at" : Str) (aC (eV 0) (aC (e1 gNeg (eC (.int 1))) aN))) sNil)
def f_need_party : FNX := runX 3 g_need_party
theorem ok_need_party {P : Program} {w : World} {K : PySem.W.Frag} {Θ : TL} {mg : Str → Option Value} {base : Heap} (h : HereD K mg "need_party" "need_party" s_need_party ["word", "book", "thing"]) (T : Txt K mg) (d_has_party : Does P w K Θ mg base 2 "has_party" ["book", "thing"] f_has_party) (x_NotUsable : OwnE P w K mg base "NotUsable" "word" "at") : DoesX P w K Θ mg base 3 "need_party" ["word", "book", "thing"] f_need_party :=
  dd_ofX h sc_need_party fun fa cdv A outer s H E F0 α0 hr => ((j_last (j_ifS (j_not (j_tru (vw (j_callD d_has_party hr (by decide) (by rfl) (j_ac (j_var 1 (pv 1)) (j_ac (j_var 2 (pv 2)) j_an)) (fun ρ S ds S' z => len_2 z) rfl)))) (j_last (j_raise2 x_NotUsable hr (by decide) rfl (takes_of rfl rfl rfl rfl) (by rfl) (j_ac (j_var 0 (pv 0)) (j_ac (j_un sp_neg (pe_un un_neg (vw (j_c pe_int (.int 1))))) j_an)))) j_nil)) : PSs _ _ (tS _ _ _ F0 α0 H g_need_party))
abbrev s_is_parties : Stmt := top 22
abbrev N_is_parties : List Str := ["book", "thing", "name"]
theorem sc_is_parties : FnScope N_is_parties ["book", "thing"] (defScope s_is_parties) := ⟨rfl, rfl, rfl, by decide +kernel, rfl, by decide +kernel, by decide +kernel⟩
def g_is_parties : GS := (sRet (eAnd (eCall f_is_set (aC (eV 1) aN)) (aG gAll (aC (eL (lComp [2] (iOf (eP 1)) (bName 2) cYes (eCall f_has_party (aC (eV 0) (aC (eV 2) aN))))) aN))))
def f_is_parties : FN := runDef 3 g_is_parties
theorem ok_is_parties {P : Program} {w : World} {K : PySem.W.Frag} {Θ : TL} {mg : Str → Option Value} {base : Heap} (h : HereD K mg "is_parties" "is_parties" s_is_parties ["book", "thing"]) (T : Txt K mg) (d_is_set : Does P w K Θ mg base 3 "is_set" ["thing"] f_is_set) (d_has_party : Does P w K Θ mg base 2 "has_party" ["book", "thing"] f_has_party) : Does P w K Θ mg base 4 "is_parties" ["book", "thing"] f_is_parties :=
  dd_of h sc_is_parties fun fa cdv A outer s H E F0 α0 hr => ((j_last (j_ret (j_andV (j_callD d_is_set hr (by decide) (by rfl) (j_ac (j_var 1 (pv 1)) j_an) (fun ρ S ds S' z => len_1 z) rfl) (j_one (j_cb sp_all (pe_callB (cr_all rfl) (by rfl) T.b_all (by decide +kernel) (j_acW (lw (j_comp (sg_name (i := 2) (vs := [2]) (by decide)) (pe_lc (own := [("name", 2)]) (g := (gName 2)) (tt := tT _ _ cYes) (te := tV _ _ (eCall f_has_party (aC (eV 0) (aC (eV 2) aN)))) (by rfl) sc_is_parties.nd (j_itW (j_peek 1 (pv 1))) (blkOk_by (own := [("name", 2)]) (N := N_is_parties) (sc := (defScope s_is_parties)) (by decide +kernel)) (fun _ _ _ _ _ => (pg_name (i := 2) sc_is_parties.nd rfl (Or.inl rfl))) (fun _ _ _ _ _ => j_yes) (fun _ _ _ _ _ => (j_callD d_has_party hr (by decide) (by rfl) (j_ac (j_var 0 (pv 0)) (j_ac (j_var 2 (pv 2)) j_an)) (fun ρ S ds S' z => len_2 z) rfl))))) j_anW))))))) : PSs _ _ (tS _ _ _ F0 α0 H g_is_parties))
abbrev s_need_parties : Stmt := top 23
abbrev N_need_parties : List Str := ["word", "book", "thing"]
theorem sc_need_parties : FnScope N_need_parties ["word", "book", "thing"] (defScope s_need_parties) := ⟨rfl, rfl, rfl, by decide +kernel, rfl, by decide +kernel, by decide +kernel⟩
def g_need_parties : GS := (sIf (tNotJ (tTru (eCall f_is_parties (aC (eV 1) (aC (eV 2) aN))))) (sRaise ("NotUsable" : Str) ("word" : Str) ("at" : Str) (aC (eV 0) (aC (e1 gNeg (eC (.int 1))) aN))) sNil)
def f_need_parties : FNX := runX 3 g_need_parties
theorem ok_need_parties {P : Program} {w : World} {K : PySem.W.Frag} {Θ : TL} {mg : Str → Option Value} {base : Heap} (h : HereD K mg "need_parties" "need_parties" s_need_parties ["word", "book", "thing"]) (T : Txt K mg) (d_is_parties : Does P w K Θ mg base 4 "is_parties" ["book", "thing"] f_is_parties) (x_NotUsable : OwnE P w K mg base "NotUsable" "word" "at") : DoesX P w K Θ mg base 5 "need_parties" ["word", "book", "thing"] f_need_parties :=
  dd_ofX h sc_need_parties fun fa cdv A outer s H E F0 α0 hr => ((j_last (j_ifS (j_not (j_tru (vw (j_callD d_is_parties hr (by decide) (by rfl) (j_ac (j_var 1 (pv 1)) (j_ac (j_var 2 (pv 2)) j_an)) (fun ρ S ds S' z => len_2 z) rfl)))) (j_last (j_raise2 x_NotUsable hr (by decide) rfl (takes_of rfl rfl rfl rfl) (by rfl) (j_ac (j_var 0 (pv 0)) (j_ac (j_un sp_neg (pe_un un_neg (vw (j_c pe_int (.int 1))))) j_an)))) j_nil)) : PSs _ _ (tS _ _ _ F0 α0 H g_need_parties))
abbrev s_files_in : Stmt := top 26
abbrev N_files_in : List Str := ["build"]
theorem sc_files_in : FnScope N_files_in ["build"] (defScope s_files_in) := ⟨rfl, rfl, rfl, by decide +kernel, rfl, by decide +kernel, by decide +kernel⟩
def g_files_in : GS := (sSeq (sIf (tOf (e2 (gIs false) (e2 gIx (eP 0) (eC (.int 1))) (eC .non))) (sRet (eSl (eP 0) (oS (eC (.int 4))) oN)) sNil) (sRet (e2 gAdd (e2 gAdd (eTup (aC (e2 gIx (eP 0) (eC (.int 1))) aN)) (e2 gIx (eP 0) (eC (.int 3)))) (eSl (eP 0) (oS (eC (.int 4))) oN))))
def f_files_in : FN := runDef 1 g_files_in
theorem ok_files_in {P : Program} {w : World} {K : PySem.W.Frag} {Θ : TL} {mg : Str → Option Value} {base : Heap} (h : HereD K mg "files_in" "files_in" s_files_in ["build"]) (T : Txt K mg) : Does P w K Θ mg base 1 "files_in" ["build"] f_files_in :=
  dd_of h sc_files_in fun fa cdv A outer s H E F0 α0 hr => ((j_seq (j_ifS (j_cmpT sp_is (pt_cmpR op_isN (vw (j_op sp_ix (pe_ix ix_seq (j_peek 0 (pv 0)) (vw (j_c pe_int (.int 1))) (fun _ _ => rfl)))) (vw (j_c pe_non .non)) (nomark _))) (j_last (j_ret (j_sl (j_peek 0 (pv 0)) (j_oS (j_c pe_int (.int 4))) j_oN))) j_nil) (j_last (j_ret (j_op sp_add (pe_op op_addJ (vw (j_op sp_add (pe_op op_addJ (vw (j_tup (j_ac (j_op sp_ix (pe_ix ix_seq (j_peek 0 (pv 0)) (vw (j_c pe_int (.int 1))) (fun _ _ => rfl))) j_an))) (vw (j_op sp_ix (pe_ix ix_seq (j_peek 0 (pv 0)) (vw (j_c pe_int (.int 3))) (fun _ _ => rfl))))))) (vw (j_sl (j_peek 0 (pv 0)) (j_oS (j_c pe_int (.int 4))) j_oN))))))) : PSs _ _ (tS _ _ _ F0 α0 H g_files_in))
abbrev s_files_of : Stmt := top 25
abbrev N_files_of : List Str := ["book", "build", "file"]
theorem sc_files_of : FnScope N_files_of ["book"] (defScope s_files_of) := ⟨rfl, rfl, rfl, by decide +kernel, rfl, by decide +kernel, by decide +kernel⟩
def g_files_of : GS := (sRet (eCall f_ascending (aC (eL (lComp2 [1, 2] [2] (iOf (e2 gIx (eP 0) (eC (.int 3)))) (bName 1) cYes (iOf (eCall f_files_in (aC (eV 1) aN))) (bName 2) cYes (eV 2))) aN)))
def f_files_of : FN := runDef 3 g_files_of
theorem ok_files_of {P : Program} {w : World} {K : PySem.W.Frag} {Θ : TL} {mg : Str → Option Value} {base : Heap} (h : HereD K mg "files_of" "files_of" s_files_of ["book"]) (T : Txt K mg) (d_ascending : Does P w K Θ mg base 2 "ascending" ["rows"] f_ascending) (d_files_in : Does P w K Θ mg base 1 "files_in" ["build"] f_files_in) : Does P w K Θ mg base 3 "files_of" ["book"] f_files_of :=
  dd_of h sc_files_of fun fa cdv A outer s H E F0 α0 hr => ((j_last (j_ret (j_callD d_ascending hr (by decide) (by rfl) (j_ac (lv (j_comp2 (by decide) (sg_name (i := 1) (vs := [1, 2]) (by decide)) (sg_name (i := 2) (vs := [2]) (by decide)) (pe_lc2 (own := [("build", 1), ("file", 2)]) (vs1 := [2]) (g := (gName 1)) (g1 := (gName 2)) (tt := tT _ _ cYes) (tt1 := tT _ _ cYes) (te := tV _ _ (eV 2)) (by rfl) sc_files_of.nd (j_itW (vw (j_op sp_ix (pe_ix ix_seq (j_peek 0 (pv 0)) (vw (j_c pe_int (.int 3))) (fun _ _ => rfl))))) (blkOk_by (own := [("build", 1), ("file", 2)]) (N := N_files_of) (sc := (defScope s_files_of)) (by decide +kernel)) (by decide) (fun _ _ _ _ _ => (pg_name (i := 1) sc_files_of.nd rfl (Or.inl rfl))) (fun _ _ _ _ _ => j_yes) (fun _ _ _ _ _ => (j_it (j_callD d_files_in hr (by decide) (by rfl) (j_ac (j_var 1 (pv 1)) j_an) (fun ρ S ds S' z => len_1 z) rfl))) (fun _ _ _ _ _ => (pg_name (i := 2) sc_files_of.nd rfl (Or.inl rfl))) (fun _ _ _ _ _ => j_yes) (fun _ _ _ _ _ => (j_var 2 (pv 2)))))) j_an) (fun ρ S ds S' z => len_1 z) rfl))) : PSs _ _ (tS _ _ _ F0 α0 H g_files_of))
abbrev s_weight_of : Stmt := top 27
abbrev N_weight_of : List Str := ["book", "parties", "name", "weight"]
theorem sc_weight_of : FnScope N_weight_of ["book", "parties"] (defScope s_weight_of) := ⟨rfl, rfl, rfl, by decide +kernel, rfl, by decide +kernel, by decide +kernel⟩
def g_weight_of : GS := (sSeq (sDropX (eCallX f_need_parties (aC (eC (.str ("parties" : Str))) (aC (eV 0) (aC (eV 1) aN))))) (sRet (aG gSum (aC (eL (lComp [2, 3] (iOf (e2 gIx (eP 0) (eC (.int 1)))) (bTup 2 (bCons (bName 2) (bCons (bName 3) bNil))) (tOf (e2 (gIn false) (eP 2) (eP 1))) (eV 3))) aN))))
def f_weight_of : FNX := runX 4 g_weight_of
theorem ok_weight_of {P : Program} {w : World} {K : PySem.W.Frag} {Θ : TL} {mg : Str → Option Value} {base : Heap} (h : HereD K mg "weight_of" "weight_of" s_weight_of ["book", "parties"]) (T : Txt K mg) (d_need_parties : DoesX P w K Θ mg base 5 "need_parties" ["word", "book", "thing"] f_need_parties) : DoesX P w K Θ mg base 6 "weight_of" ["book", "parties"] f_weight_of :=
  dd_ofX h sc_weight_of fun fa cdv A outer s H E F0 α0 hr => ((j_seq (j_dropX (ps_expr (j_callX d_need_parties (takes_of rfl rfl rfl rfl) hr (by decide) (by rfl) (j_ac (j_c pe_str (.str ("parties" : Str))) (j_ac (j_var 0 (pv 0)) (j_ac (j_var 1 (pv 1)) j_an))) (fun ρ S ds S' z => len_3 z) rfl))) (j_last (j_ret (j_cb sp_sum (pe_callB (cr_sum rfl) (by rfl) T.b_sum (by decide +kernel) (j_acW (lw (j_comp (sg_tup (n := 2) (sg_cons (sg_name (i := 2) (vs := [2, 3]) (by decide)) (sg_cons (sg_name (i := 3) (vs := [2, 3]) (by decide)) sg_nil))) (pe_lc (own := [("name", 2), ("weight", 3)]) (g := (gTup _ 2 (gCons (gName 2) (gCons (gName 3) gNil)))) (tt := tT _ _ (tOf (e2 (gIn false) (eP 2) (eP 1)))) (te := tV _ _ (eV 3)) (by rfl) sc_weight_of.nd (j_itW (vw (j_op sp_ix (pe_ix ix_seq (j_peek 0 (pv 0)) (vw (j_c pe_int (.int 1))) (fun _ _ => rfl))))) (blkOk_by (own := [("name", 2), ("weight", 3)]) (N := N_weight_of) (sc := (defScope s_weight_of)) (by decide +kernel)) (fun _ _ _ _ _ => (pg_tup rfl (pgs_cons (pg_name (i := 2) sc_weight_of.nd rfl (Or.inl rfl)) (pgs_cons (pg_name (i := 3) sc_weight_of.nd rfl (Or.inl rfl)) pgs_nil)))) (fun _ _ _ _ _ => (pts_one (j_cmpT sp_in (pt_cmpR (op_inJ (hu65 hr)) (j_peek 2 (pv 2)) (j_peek 1 (pv 1)) (by with_unfolding_all rfl))))) (fun _ _ _ _ _ => (j_var 3 (pv 3)))))) j_anW)))))) : PSs _ _ (tS _ _ _ F0 α0 H g_weight_of))
abbrev s_builds_by : Stmt := top 28
abbrev N_builds_by : List Str := ["book", "party", "build", "k"]
theorem sc_builds_by : FnScope N_builds_by ["book", "party"] (defScope s_builds_by) := ⟨rfl, rfl, rfl, by decide +kernel, rfl, by decide +kernel, by decide +kernel⟩
def g_builds_by : GS := (sSeq (sDropX (eCallX f_need_party (aC (eC (.str ("party" : Str))) (aC (eV 0) (aC (eV 1) aN))))) (sRet (aG gTuple (aC (eL (lComp [3, 2] (iEnA (aC (e2 gIx (eP 0) (eC (.int 3))) aN)) (bTup 2 (bCons (bName 3) (bCons (bName 2) bNil))) (tOf (e2 (gEq false) (e2 gIx (eP 2) (eC (.int 0))) (eP 1))) (eV 3))) aN))))
def f_builds_by : FNX := runX 4 g_builds_by
theorem ok_builds_by {P : Program} {w : World} {K : PySem.W.Frag} {Θ : TL} {mg : Str → Option Value} {base : Heap} (h : HereD K mg "builds_by" "builds_by" s_builds_by ["book", "party"]) (T : Txt K mg) (d_need_party : DoesX P w K Θ mg base 3 "need_party" ["word", "book", "thing"] f_need_party) : DoesX P w K Θ mg base 4 "builds_by" ["book", "party"] f_builds_by :=
  dd_ofX h sc_builds_by fun fa cdv A outer s H E F0 α0 hr => ((j_seq (j_dropX (ps_expr (j_callX d_need_party (takes_of rfl rfl rfl rfl) hr (by decide) (by rfl) (j_ac (j_c pe_str (.str ("party" : Str))) (j_ac (j_var 0 (pv 0)) (j_ac (j_var 1 (pv 1)) j_an))) (fun ρ S ds S' z => len_3 z) rfl))) (j_last (j_ret (j_cb sp_tuple (pe_callTy call_tuple_of (by rfl) T.b_tuple (by decide +kernel) (j_acW (lw (j_comp (sg_tup (n := 2) (sg_cons (sg_name (i := 3) (vs := [3, 2]) (by decide)) (sg_cons (sg_name (i := 2) (vs := [3, 2]) (by decide)) sg_nil))) (pe_lc (own := [("k", 3), ("build", 2)]) (g := (gTup _ 2 (gCons (gName 3) (gCons (gName 2) gNil)))) (tt := tT _ _ (tOf (e2 (gEq false) (e2 gIx (eP 2) (eC (.int 0))) (eP 1)))) (te := tV _ _ (eV 3)) (by rfl) sc_builds_by.nd (j_iw (j_enA (pi_or (pi_enum (by rfl) T.b_enumerate (j_ac (j_op sp_ix (pe_ix ix_seq (j_peek 0 (pv 0)) (vw (j_c pe_int (.int 3))) (fun _ _ => rfl))) j_an)) (pi_enumT (by rfl) T.b_enumerate (j_ac (j_op sp_ix (pe_ix ix_seq (j_peek 0 (pv 0)) (vw (j_c pe_int (.int 3))) (fun _ _ => rfl))) j_an))))) (blkOk_by (own := [("k", 3), ("build", 2)]) (N := N_builds_by) (sc := (defScope s_builds_by)) (by decide +kernel)) (fun _ _ _ _ _ => (pg_tup rfl (pgs_cons (pg_name (i := 3) sc_builds_by.nd rfl (Or.inl rfl)) (pgs_cons (pg_name (i := 2) sc_builds_by.nd rfl (Or.inl rfl)) pgs_nil)))) (fun _ _ _ _ _ => (pts_one (j_cmpT sp_eq (pt_cmpR (op_eqD hr.units) (vw (j_op sp_ix (pe_ix ix_seq (j_peek 2 (pv 2)) (vw (j_c pe_int (.int 0))) (fun _ _ => rfl)))) (j_peek 1 (pv 1)) (nomark _))))) (fun _ _ _ _ _ => (j_var 3 (pv 3)))))) j_anW)))))) : PSs _ _ (tS _ _ _ F0 α0 H g_builds_by))
abbrev s_builds_of : Stmt := top 29
abbrev N_builds_of : List Str := ["book", "file", "build", "k"]
theorem sc_builds_of : FnScope N_builds_of ["book", "file"] (defScope s_builds_of) := ⟨rfl, rfl, rfl, by decide +kernel, rfl, by decide +kernel, by decide +kernel⟩
def g_builds_of : GS := (sSeq (sDropX (eCallX f_need_name (aC (eC (.str ("file" : Str))) (aC (eV 1) aN)))) (sRet (aG gTuple (aC (eL (lComp [3, 2] (iEnA (aC (e2 gIx (eP 0) (eC (.int 3))) aN)) (bTup 2 (bCons (bName 3) (bCons (bName 2) bNil))) (tOf (e2 (gEq false) (e2 gIx (eP 2) (eC (.int 4))) (eP 1))) (eV 3))) aN))))
def f_builds_of : FNX := runX 4 g_builds_of
theorem ok_builds_of {P : Program} {w : World} {K : PySem.W.Frag} {Θ : TL} {mg : Str → Option Value} {base : Heap} (h : HereD K mg "builds_of" "builds_of" s_builds_of ["book", "file"]) (T : Txt K mg) (d_need_name : DoesX P w K Θ mg base 3 "need_name" ["word", "thing"] f_need_name) : DoesX P w K Θ mg base 4 "builds_of" ["book", "file"] f_builds_of :=
  dd_ofX h sc_builds_of fun fa cdv A outer s H E F0 α0 hr => ((j_seq (j_dropX (ps_expr (j_callX d_need_name (takes_of rfl rfl rfl rfl) hr (by decide) (by rfl) (j_ac (j_c pe_str (.str ("file" : Str))) (j_ac (j_var 1 (pv 1)) j_an)) (fun ρ S ds S' z => len_2 z) rfl))) (j_last (j_ret (j_cb sp_tuple (pe_callTy call_tuple_of (by rfl) T.b_tuple (by decide +kernel) (j_acW (lw (j_comp (sg_tup (n := 2) (sg_cons (sg_name (i := 3) (vs := [3, 2]) (by decide)) (sg_cons (sg_name (i := 2) (vs := [3, 2]) (by decide)) sg_nil))) (pe_lc (own := [("k", 3), ("build", 2)]) (g := (gTup _ 2 (gCons (gName 3) (gCons (gName 2) gNil)))) (tt := tT _ _ (tOf (e2 (gEq false) (e2 gIx (eP 2) (eC (.int 4))) (eP 1)))) (te := tV _ _ (eV 3)) (by rfl) sc_builds_of.nd (j_iw (j_enA (pi_or (pi_enum (by rfl) T.b_enumerate (j_ac (j_op sp_ix (pe_ix ix_seq (j_peek 0 (pv 0)) (vw (j_c pe_int (.int 3))) (fun _ _ => rfl))) j_an)) (pi_enumT (by rfl) T.b_enumerate (j_ac (j_op sp_ix (pe_ix ix_seq (j_peek 0 (pv 0)) (vw (j_c pe_int (.int 3))) (fun _ _ => rfl))) j_an))))) (blkOk_by (own := [("k", 3), ("build", 2)]) (N := N_builds_of) (sc := (defScope s_builds_of)) (by decide +kernel)) (fun _ _ _ _ _ => (pg_tup rfl (pgs_cons (pg_name (i := 3) sc_builds_of.nd rfl (Or.inl rfl)) (pgs_cons (pg_name (i := 2) sc_builds_of.nd rfl (Or.inl rfl)) pgs_nil)))) (fun _ _ _ _ _ => (pts_one (j_cmpT sp_eq (pt_cmpR (op_eqD hr.units) (vw (j_op sp_ix (pe_ix ix_seq (j_peek 2 (pv 2)) (vw (j_c pe_int (.int 4))) (fun _ _ => rfl)))) (j_peek 1 (pv 1)) (nomark _))))) (fun _ _ _ _ _ => (j_var 3 (pv 3)))))) j_anW)))))) : PSs _ _ (tS _ _ _ F0 α0 H g_builds_of))
abbrev s_compiling : Stmt := top 30
abbrev N_compiling : List Str := ["book", "language", "source"]
theorem sc_compiling : FnScope N_compiling ["book", "language"] (defScope s_compiling) := ⟨rfl, rfl, rfl, by decide +kernel, rfl, by decide +kernel, by decide +kernel⟩
def g_compiling : GS := (sSeq (sDropX (eCallX f_need_name (aC (eC (.str ("language" : Str))) (aC (eV 1) aN)))) (sRet (aG gTuple (aC (eL (lComp [2] (iOf (e2 gIx (eP 0) (eC (.int 0)))) (bName 2) (tOf (e2 (gIn false) (eP 1) (e2 gIx (eP 2) (eC (.int 2))))) (e2 gIx (eP 2) (eC (.int 0))))) aN))))
def f_compiling : FNX := runX 3 g_compiling
theorem ok_compiling {P : Program} {w : World} {K : PySem.W.Frag} {Θ : TL} {mg : Str → Option Value} {base : Heap} (h : HereD K mg "compiling" "compiling" s_compiling ["book", "language"]) (T : Txt K mg) (d_need_name : DoesX P w K Θ mg base 3 "need_name" ["word", "thing"] f_need_name) : DoesX P w K Θ mg base 4 "compiling" ["book", "language"] f_compiling :=
  dd_ofX h sc_compiling fun fa cdv A outer s H E F0 α0 hr => ((j_seq (j_dropX (ps_expr (j_callX d_need_name (takes_of rfl rfl rfl rfl) hr (by decide) (by rfl) (j_ac (j_c pe_str (.str ("language" : Str))) (j_ac (j_var 1 (pv 1)) j_an)) (fun ρ S ds S' z => len_2 z) rfl))) (j_last (j_ret (j_cb sp_tuple (pe_callTy call_tuple_of (by rfl) T.b_tuple (by decide +kernel) (j_acW (lw (j_comp (sg_name (i := 2) (vs := [2]) (by decide)) (pe_lc (own := [("source", 2)]) (g := (gName 2)) (tt := tT _ _ (tOf (e2 (gIn false) (eP 1) (e2 gIx (eP 2) (eC (.int 2)))))) (te := tV _ _ (e2 gIx (eP 2) (eC (.int 0)))) (by rfl) sc_compiling.nd (j_itW (vw (j_op sp_ix (pe_ix ix_seq (j_peek 0 (pv 0)) (vw (j_c pe_int (.int 0))) (fun _ _ => rfl))))) (blkOk_by (own := [("source", 2)]) (N := N_compiling) (sc := (defScope s_compiling)) (by decide +kernel)) (fun _ _ _ _ _ => (pg_name (i := 2) sc_compiling.nd rfl (Or.inl rfl))) (fun _ _ _ _ _ => (pts_one (j_cmpT sp_in (pt_cmpR (op_inJ (hu65 hr)) (j_peek 1 (pv 1)) (vw (j_op sp_ix (pe_ix ix_seq (j_peek 2 (pv 2)) (vw (j_c pe_int (.int 2))) (fun _ _ => rfl)))) (by with_unfolding_all rfl))))) (fun _ _ _ _ _ => (j_op sp_ix (pe_ix ix_seq (j_peek 2 (pv 2)) (vw (j_c pe_int (.int 0))) (fun _ _ => rfl))))))) j_anW)))))) : PSs _ _ (tS _ _ _ F0 α0 H g_compiling))
abbrev s_uses_below : Stmt := top 31
abbrev N_uses_below : List Str := ["book", "source", "row"]
theorem sc_uses_below : FnScope N_uses_below ["book", "source"] (defScope s_uses_below) := ⟨rfl, rfl, rfl, by decide +kernel, rfl, by decide +kernel, by decide +kernel⟩
def g_uses_below : GS := (sSeq (sDropX (eCallX f_need_source (aC (eC (.str ("source" : Str))) (aC (eV 0) (aC (eV 1) aN))))) (sRet (eCall f_ascending (aC (eL (lListA (eCall f_reached (aC (eDcomp [2] (iOf (e2 gIx (eP 0) (eC (.int 0)))) (bName 2) cYes (e2 gIx (eP 2) (eC (.int 0))) (e2 gIx (eP 2) (eC (.int 4)))) (aC (eV 1) aN))))) aN))))
def f_uses_below : FNX := runX 3 g_uses_below
theorem ok_uses_below {P : Program} {w : World} {K : PySem.W.Frag} {Θ : TL} {mg : Str → Option Value} {base : Heap} (h : HereD K mg "uses_below" "uses_below" s_uses_below ["book", "source"]) (T : Txt K mg) (d_need_source : DoesX P w K Θ mg base 3 "need_source" ["word", "book", "thing"] f_need_source) (d_ascending : Does P w K Θ mg base 2 "ascending" ["rows"] f_ascending) (d_reached : Does P w K Θ mg base 1 "reached" ["uses", "start"] f_reached) : DoesX P w K Θ mg base 4 "uses_below" ["book", "source"] f_uses_below :=
  dd_ofX h sc_uses_below fun fa cdv A outer s H E F0 α0 hr => ((j_seq (j_dropX (ps_expr (j_callX d_need_source (takes_of rfl rfl rfl rfl) hr (by decide) (by rfl) (j_ac (j_c pe_str (.str ("source" : Str))) (j_ac (j_var 0 (pv 0)) (j_ac (j_var 1 (pv 1)) j_an))) (fun ρ S ds S' z => len_3 z) rfl))) (j_last (j_ret (j_callD d_ascending hr (by decide) (by rfl) (j_ac (lv (j_listA (pe_callTy (callr_or call_list_of (call_list_dK rfl)) (by rfl) T.b_list (by decide +kernel) (pa_cons (vw (j_callD d_reached hr (by decide) (by rfl) (j_ac (j_dcomp (sg_name (i := 2) (vs := [2]) (by decide)) (pe_dc (own := [("row", 2)]) (g := (gName 2)) (tt := tT _ _ cYes) (tk := tV _ _ (e2 gIx (eP 2) (eC (.int 0)))) (tv := tV _ _ (e2 gIx (eP 2) (eC (.int 4)))) (by rfl) sc_uses_below.nd (j_itW (vw (j_op sp_ix (pe_ix ix_seq (j_peek 0 (pv 0)) (vw (j_c pe_int (.int 0))) (fun _ _ => rfl))))) (blkOk_by (own := [("row", 2)]) (N := N_uses_below) (sc := (defScope s_uses_below)) (by decide +kernel)) (fun _ _ _ _ _ => (pg_name (i := 2) sc_uses_below.nd rfl (Or.inl rfl))) (fun _ _ _ _ _ => j_yes) (fun _ _ _ _ _ => (j_op sp_ix (pe_ix ix_seq (j_peek 2 (pv 2)) (vw (j_c pe_int (.int 0))) (fun _ _ => rfl)))) (fun _ _ _ _ _ => (j_op sp_ix (pe_ix ix_seq (j_peek 2 (pv 2)) (vw (j_c pe_int (.int 4))) (fun _ _ => rfl)))))) (j_ac (j_var 1 (pv 1)) j_an)) (fun ρ S ds S' z => len_2 z) rfl)) pa_nil)))) j_an) (fun ρ S ds S' z => len_1 z) rfl)))) : PSs _ _ (tS _ _ _ F0 α0 H g_uses_below))
abbrev s__law_feed : Stmt := top 33
abbrev N__law_feed : List Str := ["_law_script", "_law_cell"]
theorem sc__law_feed : FnScope N__law_feed ["_law_script"] (defScope s__law_feed) := ⟨rfl, rfl, rfl, by decide +kernel, rfl, by decide +kernel, by decide +kernel⟩
def g__law_feed : GS := (sRet (eDict [(("cells" : Str), (eL (lComp [1] (iOf (eSl (eP 0) oN (oS (eC (.int 63))))) (bName 1) cYes (aG gInt (aC (eP 1) aN))))), (("next" : Str), (eC (.int 0))), (("left" : Str), (eC (.int 0))), (("count" : Str), (eC (.int 0)))]))
def f__law_feed : FN := runDef 2 g__law_feed
theorem ok__law_feed {P : Program} {w : World} {K : PySem.W.Frag} {Θ : TL} {mg : Str → Option Value} {base : Heap} (h : HereD K mg "_law_feed" "_law_feed" s__law_feed ["_law_script"]) (T : Txt K mg) : Does P w K Θ mg base 1 "_law_feed" ["_law_script"] f__law_feed :=
  dd_of h sc__law_feed fun fa cdv A outer s H E F0 α0 hr => ((j_last (j_ret (j_dict (pe_disp (pps_cons pe_str (lv (j_comp (sg_name (i := 1) (vs := [1]) (by decide)) (pe_lc (own := [("_law_cell", 1)]) (g := (gName 1)) (tt := tT _ _ cYes) (te := tV _ _ (aG gInt (aC (eP 1) aN))) (by rfl) sc__law_feed.nd (j_itW (vw (j_sl (j_peek 0 (pv 0)) j_oN (j_oS (j_c pe_int (.int 63)))))) (blkOk_by (own := [("_law_cell", 1)]) (N := N__law_feed) (sc := (defScope s__law_feed)) (by decide +kernel)) (fun _ _ _ _ _ => (pg_name (i := 1) sc__law_feed.nd rfl (Or.inl rfl))) (fun _ _ _ _ _ => j_yes) (fun _ _ _ _ _ => (j_cb sp_int (pe_callTy call_int1 (by rfl) T.b_int (by decide +kernel) (j_acW (j_peek 1 (pv 1)) j_anW))))))) (pps_cons pe_str (j_c pe_int (.int 0)) (pps_cons pe_str (j_c pe_int (.int 0)) (pps_cons pe_str (j_c pe_int (.int 0)) pps_nil)))) (by rfl) (by rfl) (fun z => by cases z) (by decide)) (by decide +kernel) (by decide)))) : PSs _ _ (tS _ _ _ F0 α0 H g__law_feed))
abbrev s__law_draw : Stmt := top 34
abbrev N__law_draw : List Str := ["_law_feed_here", "_law_many", "_law_digit", "_law_cells", "_law_spot", "_law_cell", "_law_mixed"]
theorem sc__law_draw : FnScope N__law_draw ["_law_feed_here", "_law_many"] (defScope s__law_draw) := ⟨rfl, rfl, rfl, by decide +kernel, rfl, by decide +kernel, by decide +kernel⟩
def g__law_draw : GS := (sSeq (sPut (eP 0) (eC (.str ("count" : Str))) (e2 gAdd (eGet (eP 0) (eC (.str ("count" : Str)))) (eC (.int 1)))) (sSeq (sIf (tOf (e2 gGt (eGet (eP 0) (eC (.str ("left" : Str)))) (eC (.int 0)))) (sSeq (sSet (e2 (gI CPos fun i j => i % j) (aG gInt (aC (eGet (eP 0) (eC (.str ("left" : Str)))) aN)) (eP 1)) (bName 2)) (sSeq (sPut (eP 0) (eC (.str ("left" : Str))) (e2 (gI CDivW fun i j => i / j) (eGet (eP 0) (eC (.str ("left" : Str)))) (eP 1))) (sRet (eV 2)))) sNil) (sSeq (sPar [3, 4] (mD (eGet (eP 0) (eC (.str ("cells" : Str)))) (mD (eGet (eP 0) (eC (.str ("next" : Str)))) mN))) (sSeq (sPut (eP 0) (eC (.str ("next" : Str))) (e2 gAdd (eP 4) (eC (.int 1)))) (sSeq (sSet (eIf (tOf (e2 (gEq true) (eP 3) (eL (lDisp aN)))) (e2 gIx (eP 3) (e2 (gI CPos fun i j => i % j) (aG gInt (aC (eP 4) aN)) (aG gLen (aC (eP 3) aN)))) (eC (.int 31847))) (bName 5)) (sSeq (sIf (tAndJ (tOf (e2 gGe (eP 5) (e2 (gI CPow fun i j => i ^ j.toNat) (eC (.int 10)) (eC (.int 18))))) (tOf (e2 gLt (eP 4) (aG gLen (aC (eP 3) aN))))) (sSeq (sPut (eP 0) (eC (.str ("left" : Str))) (e2 (gI CDivW fun i j => i / j) (eP 5) (eP 1))) (sRet (e2 (gI CPos fun i j => i % j) (aG gInt (aC (eP 5) aN)) (eP 1)))) sNil) (sSeq (sSet (e2 (gI CPos fun i j => i % j) (aG gInt (aC (e2 gAdd (e2 gAdd (e2 (gI CPos fun i j => i % j) (aG gInt (aC (eP 5) aN)) (eC (.int 2147483629))) (e2 (gI CMulW fun i j => i * j) (eC (.int 48271)) (eGet (eP 0) (eC (.str ("count" : Str)))))) (eC (.int 11))) aN)) (eC (.int 2147483587))) (bName 6)) (sSeq (sSet (e2 (gI CPos fun i j => i % j) (aG gInt (aC (e2 gAdd (e2 gAdd (e2 (gI CMulW fun i j => i * j) (eP 6) (eP 6)) (e2 (gI CMulW fun i j => i * j) (eC (.int 69621)) (eGet (eP 0) (eC (.str ("count" : Str)))))) (eC (.int 5))) aN)) (eC (.int 2147483563))) (bName 6)) (sSeq (sSet (e2 (gI CPos fun i j => i % j) (aG gInt (aC (e2 gAdd (e2 (gI CMulW fun i j => i * j) (eP 6) (eP 6)) (e2 (gI CMulW fun i j => i * j) (eC (.int 40692)) (eP 6))) aN)) (eC (.int 2147483549))) (bName 6)) (sRet (e2 (gI CPos fun i j => i % j) (aG gInt (aC (e2 (gI CDivW fun i j => i / j) (eP 6) (eC (.int 64))) aN)) (eP 1))))))))))))
def f__law_draw : FN := runDef 7 g__law_draw
theorem ok__law_draw {P : Program} {w : World} {K : PySem.W.Frag} {Θ : TL} {mg : Str → Option Value} {base : Heap} (h : HereD K mg "_law_draw" "_law_draw" s__law_draw ["_law_feed_here", "_law_many"]) (T : Txt K mg) : Does P w K Θ mg base 1 "_law_draw" ["_law_feed_here", "_law_many"] f__law_draw :=
  dd_of h sc__law_draw fun fa cdv A outer s H E F0 α0 hr => ((j_seq (j_put (ps_dput (hu_of hr) (j_peek 0 (pv 0)) (vw (j_c pe_str (.str ("count" : Str)))) (j_op sp_add (pe_op op_addJ (vw (j_get (pe_dget (hu_of hr) (j_peek 0 (pv 0)) (vw (j_c pe_str (.str ("count" : Str)))) (fun _ _ => rfl)))) (vw (j_c pe_int (.int 1))))) rfl)) (j_seq (j_ifS (j_cmpT sp_gt (pt_cmpR op_gtJ (vw (j_get (pe_dget (hu_of hr) (j_peek 0 (pv 0)) (vw (j_c pe_str (.str ("left" : Str)))) (fun _ _ => rfl)))) (vw (j_c pe_int (.int 0))) (nomark _))) (j_seq (j_asg (sg_name (i := 2) (vs := [2]) (by decide)) (ps_set (i := 2) sc__law_draw.nd rfl (Or.inl rfl) (j_op (sp_I (C := CPos)) (pe_op op_mod (vw (j_cb sp_int (pe_callTy call_int1 (by rfl) T.b_int (by decide +kernel) (j_acW (vw (j_get (pe_dget (hu_of hr) (j_peek 0 (pv 0)) (vw (j_c pe_str (.str ("left" : Str)))) (fun _ _ => rfl)))) j_anW)))) (j_peek 1 (pv 1)))))) (j_seq (j_put (ps_dput (hu_of hr) (j_peek 0 (pv 0)) (vw (j_c pe_str (.str ("left" : Str)))) (j_op sp_I (pe_op op_fdivW (vw (j_get (pe_dget (hu_of hr) (j_peek 0 (pv 0)) (vw (j_c pe_str (.str ("left" : Str)))) (fun _ _ => rfl)))) (j_peek 1 (pv 1)))) rfl)) (j_last (j_ret (j_var 2 (pv 2)))))) j_nil) (j_seq (j_par2 (ps_par (i := 3) (j := 4) (by rfl) sc__law_draw.nd rfl rfl (by decide) rfl rfl (j_md (j_get (pe_dget (hu_of hr) (j_peek 0 (pv 0)) (vw (j_c pe_str (.str ("cells" : Str)))) (fun _ _ => rfl))) (j_md (j_get (pe_dget (hu_of hr) (j_peek 0 (pv 0)) (vw (j_c pe_str (.str ("next" : Str)))) (fun _ _ => rfl))) j_mn)) (by rfl))) (j_seq (j_put (ps_dput (hu_of hr) (j_peek 0 (pv 0)) (vw (j_c pe_str (.str ("next" : Str)))) (j_op sp_add (pe_op op_addJ (j_peek 4 (pv 4)) (vw (j_c pe_int (.int 1))))) rfl)) (j_seq (j_asg (sg_name (i := 5) (vs := [5]) (by decide)) (ps_set (i := 5) sc__law_draw.nd rfl (Or.inl rfl) (j_if (j_cmpT sp_ne (pt_cmpR (op_neD hr.units) (j_peek 3 (pv 3)) (lw (j_disp j_an)) (nomark _))) (j_op sp_ix (pe_ix ix_seq (j_peek 3 (pv 3)) (vw (j_op (sp_I (C := CPos)) (pe_op op_mod (vw (j_cb sp_int (pe_callTy call_int1 (by rfl) T.b_int (by decide +kernel) (j_acW (j_peek 4 (pv 4)) j_anW)))) (vw (j_cb sp_len (pe_callB call_lenJ (by rfl) T.b_len PySem.boot_len (j_acW (j_peek 3 (pv 3)) j_anW))))))) (fun _ _ => rfl))) (j_c pe_int (.int 31847))))) (j_seq (j_ifS (PW.pt (j_and (j_cmpT sp_ord (pt_cmpR op_geJ (j_peek 5 (pv 5)) (vw (j_op sp_I (pe_op op_pow (vw (j_c pe_int (.int 10))) (vw (j_c pe_int (.int 18)))))) (nomark _))) (j_and1 (j_cmpT sp_lt (pt_cmpR (op_ltJ hr.units0) (j_peek 4 (pv 4)) (vw (j_cb sp_len (pe_callB call_lenJ (by rfl) T.b_len PySem.boot_len (j_acW (j_peek 3 (pv 3)) j_anW)))) (nomark _)))))) (j_seq (j_put (ps_dput (hu_of hr) (j_peek 0 (pv 0)) (vw (j_c pe_str (.str ("left" : Str)))) (j_op sp_I (pe_op op_fdivW (j_peek 5 (pv 5)) (j_peek 1 (pv 1)))) rfl)) (j_last (j_ret (j_op (sp_I (C := CPos)) (pe_op op_mod (vw (j_cb sp_int (pe_callTy call_int1 (by rfl) T.b_int (by decide +kernel) (j_acW (j_peek 5 (pv 5)) j_anW)))) (j_peek 1 (pv 1))))))) j_nil) (j_seq (j_asg (sg_name (i := 6) (vs := [6]) (by decide)) (ps_set (i := 6) sc__law_draw.nd rfl (Or.inl rfl) (j_op (sp_I (C := CPos)) (pe_op op_mod (vw (j_cb sp_int (pe_callTy call_int1 (by rfl) T.b_int (by decide +kernel) (j_acW (vw (j_op sp_add (pe_op op_addJ (vw (j_op sp_add (pe_op op_addJ (vw (j_op (sp_I (C := CPos)) (pe_op op_mod (vw (j_cb sp_int (pe_callTy call_int1 (by rfl) T.b_int (by decide +kernel) (j_acW (j_peek 5 (pv 5)) j_anW)))) (vw (j_c pe_int (.int 2147483629)))))) (vw (j_op sp_I (pe_op op_mulW (vw (j_c pe_int (.int 48271))) (vw (j_get (pe_dget (hu_of hr) (j_peek 0 (pv 0)) (vw (j_c pe_str (.str ("count" : Str)))) (fun _ _ => rfl)))))))))) (vw (j_c pe_int (.int 11)))))) j_anW)))) (vw (j_c pe_int (.int 2147483587))))))) (j_seq (j_asg (sg_name (i := 6) (vs := [6]) (by decide)) (ps_set (i := 6) sc__law_draw.nd rfl (Or.inl rfl) (j_op (sp_I (C := CPos)) (pe_op op_mod (vw (j_cb sp_int (pe_callTy call_int1 (by rfl) T.b_int (by decide +kernel) (j_acW (vw (j_op sp_add (pe_op op_addJ (vw (j_op sp_add (pe_op op_addJ (vw (j_op sp_I (pe_op op_mulW (j_peek 6 (pv 6)) (j_peek 6 (pv 6))))) (vw (j_op sp_I (pe_op op_mulW (vw (j_c pe_int (.int 69621))) (vw (j_get (pe_dget (hu_of hr) (j_peek 0 (pv 0)) (vw (j_c pe_str (.str ("count" : Str)))) (fun _ _ => rfl)))))))))) (vw (j_c pe_int (.int 5)))))) j_anW)))) (vw (j_c pe_int (.int 2147483563))))))) (j_seq (j_asg (sg_name (i := 6) (vs := [6]) (by decide)) (ps_set (i := 6) sc__law_draw.nd rfl (Or.inl rfl) (j_op (sp_I (C := CPos)) (pe_op op_mod (vw (j_cb sp_int (pe_callTy call_int1 (by rfl) T.b_int (by decide +kernel) (j_acW (vw (j_op sp_add (pe_op op_addJ (vw (j_op sp_I (pe_op op_mulW (j_peek 6 (pv 6)) (j_peek 6 (pv 6))))) (vw (j_op sp_I (pe_op op_mulW (vw (j_c pe_int (.int 40692))) (j_peek 6 (pv 6)))))))) j_anW)))) (vw (j_c pe_int (.int 2147483549))))))) (j_last (j_ret (j_op (sp_I (C := CPos)) (pe_op op_mod (vw (j_cb sp_int (pe_callTy call_int1 (by rfl) T.b_int (by decide +kernel) (j_acW (vw (j_op sp_I (pe_op op_fdivW (j_peek 6 (pv 6)) (vw (j_c pe_int (.int 64)))))) j_anW)))) (j_peek 1 (pv 1))))))))))))))) : PSs _ _ (tS _ _ _ F0 α0 H g__law_draw))
abbrev s__law_pick : Stmt := top 35
abbrev N__law_pick : List Str := ["_law_feed_here", "_law_things"]
theorem sc__law_pick : FnScope N__law_pick ["_law_feed_here", "_law_things"] (defScope s__law_pick) := ⟨rfl, rfl, rfl, by decide +kernel, rfl, by decide +kernel, by decide +kernel⟩
def g__law_pick : GS := (sRet (e2 gIx (eP 1) (eCall f__law_draw (aC (eV 0) (aC (aG gLen (aC (eP 1) aN)) aN)))))
def f__law_pick : FN := runDef 2 g__law_pick
theorem ok__law_pick {P : Program} {w : World} {K : PySem.W.Frag} {Θ : TL} {mg : Str → Option Value} {base : Heap} (h : HereD K mg "_law_pick" "_law_pick" s__law_pick ["_law_feed_here", "_law_things"]) (T : Txt K mg) (d__law_draw : Does P w K Θ mg base 1 "_law_draw" ["_law_feed_here", "_law_many"] f__law_draw) : Does P w K Θ mg base 2 "_law_pick" ["_law_feed_here", "_law_things"] f__law_pick :=
  dd_of h sc__law_pick fun fa cdv A outer s H E F0 α0 hr => ((j_last (j_ret (j_op sp_ix (pe_ix ix_seq (j_peek 1 (pv 1)) (vw (j_callD d__law_draw hr (by decide) (by rfl) (j_ac (j_var 0 (pv 0)) (j_ac (j_cb sp_len (pe_callB call_lenJ (by rfl) T.b_len PySem.boot_len (j_acW (j_peek 1 (pv 1)) j_anW))) j_an)) (fun ρ S ds S' z => len_2 z) rfl)) (fun _ _ => rfl))))) : PSs _ _ (tS _ _ _ F0 α0 H g__law_pick))
abbrev s__law_names : Stmt := top 36
abbrev N__law_names : List Str := ["_law_feed_here", "_law_many", "_law_signs", "_law_words", "_law_way", "_law_size", "_law_found", "_law_stem", "_law_cut", "_law_lap", "_law_name", "_law_more", "_law_k", "_law_sign"]
theorem sc__law_names : FnScope N__law_names ["_law_feed_here", "_law_many"] (defScope s__law_names) := ⟨rfl, rfl, rfl, by decide +kernel, rfl, by decide +kernel, by decide +kernel⟩
def g__law_names : GS := (sSeq (sSet (eC (.str ("abcdefghijklmnopqrstuvwxyz0123456789" : Str))) (bName 2)) (sSeq (sSetL 3 (lDisp (aC (eC (.str ("source" : Str))) (aC (eC (.str ("party" : Str))) (aC (eC (.str ("unlike" : Str))) (aC (eC (.str ("build" : Str))) (aC (eC (.str ("steady" : Str))) (aC (eC (.str ("loose" : Str))) (aC (eC (.str ("n0" : Str))) (aC (eC (.str ("n10" : Str))) (aC (eC (.str ("n9" : Str))) aN))))))))))) (sSeq (sExt 3 (eL (lDisp (aC (eC (.str ("a" : Str))) (aC (eC (.str ("ab" : Str))) (aC (eC (.str ("abc" : Str))) (aC (eC (.str ("a0" : Str))) (aC (eC (.str ("z9" : Str))) aN)))))))) (sSeq (sPar [4, 5, 6] (mD (eCall f__law_draw (aC (eV 0) (aC (eC (.int 3)) aN))) (mD (eCall f__law_draw (aC (eV 0) (aC (eC (.int 7)) aN))) (mO (lDisp aN) mN)))) (sSeq (sSet (e2 gAdd (e2 gIx (eP 2) (eCall f__law_draw (aC (eV 0) (aC (eC (.int 26)) aN)))) (e2 gJoin (eC (.str ("" : Str))) (eL (lComp [9] (iRg1 (aC (eP 5) aN)) (bName 9) cYes (eCall f__law_pick (aC (eV 0) (aC (eV 2) aN))))))) (bName 7)) (sSeq (sSet (e2 gAdd (eC (.int 1)) (eCall f__law_draw (aC (eV 0) (aC (e2 gAdd (eP 5) (eC (.int 1))) aN)))) (bName 8)) (sSeq (sFor (iRg1 (aC (eP 1) aN)) (bName 9) (sSeq (sSet (e2 gAdd (e2 gAdd (eSl (eP 7) oN (oS (eV 8))) (eCall f__law_pick (aC (eV 0) (aC (eV 2) aN)))) (eSl (eP 7) (oS (eV 8)) oN)) (bName 10)) (sSeq (sIf (tOf (e2 (gEq false) (eP 4) (eC (.int 1)))) (sFreeze 3 (sSet (eCall f__law_pick (aC (eV 0) (aC (eV 3) aN))) (bName 10))) sNil) (sSeq (sIf (tOf (e2 (gEq false) (eP 4) (eC (.int 2)))) (sSeq (sSet (eL (lComp [12] (iRg1 (aC (eCall f__law_draw (aC (eV 0) (aC (eC (.int 8)) aN))) aN)) (bName 12) cYes (eCall f__law_pick (aC (eV 0) (aC (eV 2) aN))))) (bName 11)) (sSet (e2 gAdd (e2 gIx (eP 2) (eCall f__law_draw (aC (eV 0) (aC (eC (.int 26)) aN)))) (e2 gJoin (eC (.str ("" : Str))) (eP 11))) (bName 10))) sNil) (sSeq (sIf (tOf (e2 (gIn false) (eP 10) (eP 6))) (sSet (e2 gIx (eL (lComp [13] (iOf (eSl (eP 2) oN (oS (eC (.int 26))))) (bName 13) (tOf (e2 (gIn true) (eP 13) (eP 6))) (eV 13))) (eC (.int 0))) (bName 10)) sNil) (sApp 6 (eV 10))))))) (sFreeze 6 (sRet (eV 6))))))))))
def f__law_names : FN := runDef 14 g__law_names
theorem ok__law_names {P : Program} {w : World} {K : PySem.W.Frag} {Θ : TL} {mg : Str → Option Value} {base : Heap} (h : HereD K mg "_law_names" "_law_names" s__law_names ["_law_feed_here", "_law_many"]) (T : Txt K mg) (d__law_draw : Does P w K Θ mg base 1 "_law_draw" ["_law_feed_here", "_law_many"] f__law_draw) (d__law_pick : Does P w K Θ mg base 2 "_law_pick" ["_law_feed_here", "_law_things"] f__law_pick) : Does P w K Θ mg base 3 "_law_names" ["_law_feed_here", "_law_many"] f__law_names :=
  dd_of h sc__law_names fun fa cdv A outer s H E F0 α0 hr => ((j_seq (j_asg (sg_name (i := 2) (vs := [2]) (by decide)) (ps_set (i := 2) sc__law_names.nd rfl (Or.inr rfl) (j_c pe_str (.str ("abcdefghijklmnopqrstuvwxyz0123456789" : Str))))) (j_seq (j_setL (ps_set (i := 3) sc__law_names.nd rfl (Or.inl rfl) (j_disp (j_ac (j_c pe_str (.str ("source" : Str))) (j_ac (j_c pe_str (.str ("party" : Str))) (j_ac (j_c pe_str (.str ("unlike" : Str))) (j_ac (j_c pe_str (.str ("build" : Str))) (j_ac (j_c pe_str (.str ("steady" : Str))) (j_ac (j_c pe_str (.str ("loose" : Str))) (j_ac (j_c pe_str (.str ("n0" : Str))) (j_ac (j_c pe_str (.str ("n10" : Str))) (j_ac (j_c pe_str (.str ("n9" : Str))) j_an)))))))))))) (j_seq (j_ext (ps_expr (pe_bm PySem.F.plainAttrs_list PySem.F.slot_list_extend PySem.F.type_list_extend mt_extend (pv 3) (pa_cons (lw (j_disp (j_ac (j_c pe_str (.str ("a" : Str))) (j_ac (j_c pe_str (.str ("ab" : Str))) (j_ac (j_c pe_str (.str ("abc" : Str))) (j_ac (j_c pe_str (.str ("a0" : Str))) (j_ac (j_c pe_str (.str ("z9" : Str))) j_an))))))) pa_nil)))) (j_seq (j_parC (is := [4, 5, 6]) (ps_asg (pe_tup (j_md (j_callD d__law_draw hr (by decide) (by rfl) (j_ac (j_var 0 (pv 0)) (j_ac (j_c pe_int (.int 3)) j_an)) (fun ρ S ds S' z => len_2 z) rfl) (j_md (j_callD d__law_draw hr (by decide) (by rfl) (j_ac (j_var 0 (pv 0)) (j_ac (j_c pe_int (.int 7)) j_an)) (fun ρ S ds S' z => len_2 z) rfl) (j_mo (j_disp j_an) j_mn)))) (pg_tup rfl (pgs_cons (pg_name (i := 4) sc__law_names.nd rfl (Or.inl rfl)) (pgs_cons (pg_name (i := 5) sc__law_names.nd rfl (Or.inl rfl)) (pgs_cons (pg_name (i := 6) sc__law_names.nd rfl (Or.inr rfl)) pgs_nil))))) rfl (by decide)) (j_seq (j_asg (sg_name (i := 7) (vs := [7]) (by decide)) (ps_set (i := 7) sc__law_names.nd rfl (Or.inl rfl) (j_op sp_add (pe_op op_addJ (vw (j_op sp_ix (pe_ix ix_seq (j_peek 2 (pv 2)) (vw (j_callD d__law_draw hr (by decide) (by rfl) (j_ac (j_var 0 (pv 0)) (j_ac (j_c pe_int (.int 26)) j_an)) (fun ρ S ds S' z => len_2 z) rfl)) (fun _ _ => rfl)))) (vw (j_join (pe_join (vw (j_c pe_str (.str ("" : Str)))) (lw (j_comp (sg_name (i := 9) (vs := [9]) (by decide)) (pe_lc (own := [("_law_lap", 9)]) (g := (gName 9)) (tt := tT _ _ cYes) (te := tV _ _ (eCall f__law_pick (aC (eV 0) (aC (eV 2) aN)))) (by rfl) sc__law_names.nd (j_iw (j_rg1 (pi_range1 (by rfl) T.b_range (j_acW (j_peek 5 (pv 5)) j_anW)))) (blkOk_by (own := [("_law_lap", 9)]) (N := N__law_names) (sc := (defScope s__law_names)) (by decide +kernel)) (fun _ _ _ _ _ => (pg_name (i := 9) sc__law_names.nd rfl (Or.inl rfl))) (fun _ _ _ _ _ => j_yes) (fun _ _ _ _ _ => (j_callD d__law_pick hr (by decide) (by rfl) (j_ac (j_var 0 (pv 0)) (j_ac (j_var 2 (pv 2)) j_an)) (fun ρ S ds S' z => len_2 z) rfl)))))))))))) (j_seq (j_asg (sg_name (i := 8) (vs := [8]) (by decide)) (ps_set (i := 8) sc__law_names.nd rfl (Or.inl rfl) (j_op sp_add (pe_op op_addJ (vw (j_c pe_int (.int 1))) (vw (j_callD d__law_draw hr (by decide) (by rfl) (j_ac (j_var 0 (pv 0)) (j_ac (j_op sp_add (pe_op op_addJ (j_peek 5 (pv 5)) (vw (j_c pe_int (.int 1))))) j_an)) (fun ρ S ds S' z => len_2 z) rfl)))))) (j_seq (j_for (sg_name (i := 9) (vs := [9]) (by decide)) (ps_for PassesOwn.never rfl (j_rg1 (pi_range1 (by rfl) T.b_range (j_acW (j_peek 1 (pv 1)) j_anW))) (pg_name (i := 9) sc__law_names.nd rfl (Or.inl rfl)) (j_seq (j_asg (sg_name (i := 10) (vs := [10]) (by decide)) (ps_set (i := 10) sc__law_names.nd rfl (Or.inl rfl) (j_op sp_add (pe_op op_addJ (vw (j_op sp_add (pe_op op_addJ (vw (j_sl (j_peek 7 (pv 7)) j_oN (j_oS (j_var 8 (pv 8))))) (vw (j_callD d__law_pick hr (by decide) (by rfl) (j_ac (j_var 0 (pv 0)) (j_ac (j_var 2 (pv 2)) j_an)) (fun ρ S ds S' z => len_2 z) rfl))))) (vw (j_sl (j_peek 7 (pv 7)) (j_oS (j_var 8 (pv 8))) j_oN)))))) (j_seq (j_ifS (j_cmpT sp_eq (pt_cmpR (op_eqD hr.units) (j_peek 4 (pv 4)) (vw (j_c pe_int (.int 1))) (nomark _))) (j_freeze 3 (j_last (j_asg (sg_name (i := 10) (vs := [10]) (by decide)) (ps_set (i := 10) sc__law_names.nd rfl (Or.inl rfl) (j_callD d__law_pick hr (by decide) (by rfl) (j_ac (j_var 0 (pv 0)) (j_ac (j_var 3 (pv 3)) j_an)) (fun ρ S ds S' z => len_2 z) rfl))))) j_nil) (j_seq (j_ifS (j_cmpT sp_eq (pt_cmpR (op_eqD hr.units) (j_peek 4 (pv 4)) (vw (j_c pe_int (.int 2))) (nomark _))) (j_seq (j_asg (sg_name (i := 11) (vs := [11]) (by decide)) (j_setV (i := 0) (j_setC (sg_name (i := 12) (vs := [12]) (by decide)) (ps_setLc (i := 11) (own := [("_law_k", 12)]) (g := (gName 12)) (tt := tT _ _ cYes) (te := tV _ _ (eCall f__law_pick (aC (eV 0) (aC (eV 2) aN)))) (by rfl) sc__law_names.nd rfl rfl (sw_true rfl rfl rfl (by decide +kernel)) (j_iw (j_rg1 (pi_range1 (by rfl) T.b_range (j_acW (vw (j_callD d__law_draw hr (by decide) (by rfl) (j_ac (j_var 0 (pv 0)) (j_ac (j_c pe_int (.int 8)) j_an)) (fun ρ S ds S' z => len_2 z) rfl)) j_anW)))) (blkOk_by (own := [("_law_k", 12)]) (N := N__law_names) (sc := (defScope s__law_names)) (by decide +kernel)) (fun _ _ _ _ _ => (pg_name (i := 12) sc__law_names.nd rfl (Or.inl rfl))) (fun _ _ _ _ _ => j_yes) (fun _ _ _ _ _ => (j_callD d__law_pick hr (by decide) (by rfl) (j_ac (j_var 0 (pv 0)) (j_ac (j_var 2 (pv 2)) j_an)) (fun ρ S ds S' z => len_2 z) rfl)))))) (j_last (j_asg (sg_name (i := 10) (vs := [10]) (by decide)) (ps_set (i := 10) sc__law_names.nd rfl (Or.inl rfl) (j_op sp_add (pe_op op_addJ (vw (j_op sp_ix (pe_ix ix_seq (j_peek 2 (pv 2)) (vw (j_callD d__law_draw hr (by decide) (by rfl) (j_ac (j_var 0 (pv 0)) (j_ac (j_c pe_int (.int 26)) j_an)) (fun ρ S ds S' z => len_2 z) rfl)) (fun _ _ => rfl)))) (vw (j_join (pe_join (vw (j_c pe_str (.str ("" : Str)))) (j_peek 11 (pv 11))))))))))) j_nil) (j_seq (j_ifS (j_cmpT sp_in (pt_cmpR (op_inJ (hu65 hr)) (j_peek 10 (pv 10)) (j_peek 6 (pv 6)) (by with_unfolding_all rfl))) (j_last (j_asg (sg_name (i := 10) (vs := [10]) (by decide)) (ps_set (i := 10) sc__law_names.nd rfl (Or.inl rfl) (j_op sp_ix (pe_ix ix_seq (lw (j_comp (sg_name (i := 13) (vs := [13]) (by decide)) (pe_lc (own := [("_law_sign", 13)]) (g := (gName 13)) (tt := tT _ _ (tOf (e2 (gIn true) (eP 13) (eP 6)))) (te := tV _ _ (eV 13)) (by rfl) sc__law_names.nd (j_itW (vw (j_sl (j_peek 2 (pv 2)) j_oN (j_oS (j_c pe_int (.int 26)))))) (blkOk_by (own := [("_law_sign", 13)]) (N := N__law_names) (sc := (defScope s__law_names)) (by decide +kernel)) (fun _ _ _ _ _ => (pg_name (i := 13) sc__law_names.nd rfl (Or.inl rfl))) (fun _ _ _ _ _ => (pts_one (j_cmpT sp_in (pt_cmpR (op_notInJ (hu65 hr)) (j_peek 13 (pv 13)) (j_peek 6 (pv 6)) (by with_unfolding_all rfl))))) (fun _ _ _ _ _ => (j_var 13 (pv 13)))))) (vw (j_c pe_int (.int 0))) (fun _ _ => rfl)))))) j_nil) (j_last (j_app (ps_expr (pe_bm PySem.F.plainAttrs_list PySem.F.slot_list_append PySem.F.type_list_append mt_append (pv 6) (pa_cons (j_var 10 (pv 10)) pa_nil))))))))))) (j_freeze 6 (j_last (j_ret (j_var 6 (pv 6)))))))))))) : PSs _ _ (tS _ _ _ F0 α0 H g__law_names))
abbrev s__law_sources : Stmt := top 37
abbrev N__law_sources : List Str := ["_law_feed_here", "_law_names_here", "_law_tongues", "_law_keys", "_law_found", "_law_i", "_law_name", "_law_lower", "_law_many", "_law_uses", "_law_speaks", "_law_steady", "_law_j", "_law_lap"]
theorem sc__law_sources : FnScope N__law_sources ["_law_feed_here", "_law_names_here", "_law_tongues"] (defScope s__law_sources) := ⟨rfl, rfl, rfl, by decide +kernel, rfl, by decide +kernel, by decide +kernel⟩
def g__law_sources : GS := (sSeq (sPar [3, 4] (mD (eL (lComp [6] (iOf (eP 1)) (bName 6) cYes (eCall f__law_draw (aC (eV 0) (aC (eC (.int 100)) aN))))) (mO (lDisp aN) mN))) (sSeq (sFor (iEn (aC (eV 1) aN)) (bTup 2 (bCons (bName 5) (bCons (bName 6) bNil))) (sSeq (sSet (eL (lComp [12] (iRg1 (aC (aG gLen (aC (eP 1) aN)) aN)) (bName 12) (tOf (e2 gLt (eTup (aC (e2 gIx (eP 3) (eP 12)) (aC (eV 12) aN))) (eTup (aC (e2 gIx (eP 3) (eP 5)) (aC (eV 5) aN))))) (e2 gIx (eP 1) (eP 12)))) (bName 7)) (sSeq (sSet (eIf (tOf (e2 (gEq true) (eP 7) (eL (lDisp aN)))) (eCall f__law_draw (aC (eV 0) (aC (eC (.int 4)) aN))) (eC (.int 0))) (bName 8)) (sSeq (sSet (aG gTuple (aC (eL (lSortedSet (eL (lComp [13] (iRg1 (aC (eP 8) aN)) (bName 13) cYes (eCall f__law_pick (aC (eV 0) (aC (eV 7) aN))))))) aN)) (bName 9)) (sSeq (sSet (aG gTuple (aC (eL (lSortedSet (eL (lComp [13] (iRg1 (aC (eCall f__law_draw (aC (eV 0) (aC (eC (.int 3)) aN))) aN)) (bName 13) cYes (eCall f__law_pick (aC (eV 0) (aC (eV 2) aN))))))) aN)) (bName 10)) (sSeq (sSet (e2 gGt (eCall f__law_draw (aC (eV 0) (aC (eC (.int 3)) aN))) (eC (.int 0))) (bName 11)) (sApp 4 (eTup (aC (eV 6) (aC (eCall f__law_pick (aC (eV 0) (aC (eV 2) aN))) (aC (eV 10) (aC (eV 11) (aC (eV 9) aN))))))))))))) (sRet (aG gTuple (aC (eP 4) aN)))))
def f__law_sources : FN := runDef 14 g__law_sources
theorem ok__law_sources {P : Program} {w : World} {K : PySem.W.Frag} {Θ : TL} {mg : Str → Option Value} {base : Heap} (h : HereD K mg "_law_sources" "_law_sources" s__law_sources ["_law_feed_here", "_law_names_here", "_law_tongues"]) (T : Txt K mg) (d__law_draw : Does P w K Θ mg base 1 "_law_draw" ["_law_feed_here", "_law_many"] f__law_draw) (d__law_pick : Does P w K Θ mg base 2 "_law_pick" ["_law_feed_here", "_law_things"] f__law_pick) : Does P w K Θ mg base 3 "_law_sources" ["_law_feed_here", "_law_names_here", "_law_tongues"] f__law_sources :=
  dd_of h sc__law_sources fun fa cdv A outer s H E F0 α0 hr => ((j_seq (j_parC (is := [3, 4]) (ps_asg (pe_tup (j_md (lv (j_comp (sg_name (i := 6) (vs := [6]) (by decide)) (pe_lc (own := [("_law_name", 6)]) (g := (gName 6)) (tt := tT _ _ cYes) (te := tV _ _ (eCall f__law_draw (aC (eV 0) (aC (eC (.int 100)) aN)))) (by rfl) sc__law_sources.nd (j_itW (j_peek 1 (pv 1))) (blkOk_by (own := [("_law_name", 6)]) (N := N__law_sources) (sc := (defScope s__law_sources)) (by decide +kernel)) (fun _ _ _ _ _ => (pg_name (i := 6) sc__law_sources.nd rfl (Or.inl rfl))) (fun _ _ _ _ _ => j_yes) (fun _ _ _ _ _ => (j_callD d__law_draw hr (by decide) (by rfl) (j_ac (j_var 0 (pv 0)) (j_ac (j_c pe_int (.int 100)) j_an)) (fun ρ S ds S' z => len_2 z) rfl))))) (j_mo (j_disp j_an) j_mn))) (pg_tup rfl (pgs_cons (pg_name (i := 3) sc__law_sources.nd rfl (Or.inr rfl)) (pgs_cons (pg_name (i := 4) sc__law_sources.nd rfl (Or.inl rfl)) pgs_nil)))) rfl (by decide)) (j_seq (j_for (sg_tup (n := 2) (sg_cons (sg_name (i := 5) (vs := [5, 6]) (by decide)) (sg_cons (sg_name (i := 6) (vs := [5, 6]) (by decide)) sg_nil))) (ps_for PassesOwn.never rfl (j_en (pi_enum (by rfl) T.b_enumerate (j_ac (j_var 1 (pv 1)) j_an))) (pg_tup rfl (pgs_cons (pg_name (i := 5) sc__law_sources.nd rfl (Or.inr rfl)) (pgs_cons (pg_name (i := 6) sc__law_sources.nd rfl (Or.inl rfl)) pgs_nil))) (j_seq (j_asg (sg_name (i := 7) (vs := [7]) (by decide)) (j_setV (i := 0) (ps_set (i := 7) sc__law_sources.nd rfl (Or.inr rfl) (j_comp (sg_name (i := 12) (vs := [12]) (by decide)) (pe_lc (own := [("_law_j", 12)]) (g := (gName 12)) (tt := tT _ _ (tOf (e2 gLt (eTup (aC (e2 gIx (eP 3) (eP 12)) (aC (eV 12) aN))) (eTup (aC (e2 gIx (eP 3) (eP 5)) (aC (eV 5) aN)))))) (te := tV _ _ (e2 gIx (eP 1) (eP 12))) (by rfl) sc__law_sources.nd (j_iw (j_rg1 (pi_range1 (by rfl) T.b_range (j_acW (vw (j_cb sp_len (pe_callB call_lenJ (by rfl) T.b_len PySem.boot_len (j_acW (j_peek 1 (pv 1)) j_anW)))) j_anW)))) (blkOk_by (own := [("_law_j", 12)]) (N := N__law_sources) (sc := (defScope s__law_sources)) (by decide +kernel)) (fun _ _ _ _ _ => (pg_name (i := 12) sc__law_sources.nd rfl (Or.inl rfl))) (fun _ _ _ _ _ => (pts_one (j_cmpT sp_lt (pt_cmpR (op_ltJ hr.units0) (vw (j_tup (j_ac (j_op sp_ix (pe_ix ix_seq (j_peek 3 (pv 3)) (j_peek 12 (pv 12)) (fun _ _ => rfl))) (j_ac (j_var 12 (pv 12)) j_an)))) (vw (j_tup (j_ac (j_op sp_ix (pe_ix ix_seq (j_peek 3 (pv 3)) (j_peek 5 (pv 5)) (fun _ _ => rfl))) (j_ac (j_var 5 (pv 5)) j_an)))) (nomark _))))) (fun _ _ _ _ _ => (j_op sp_ix (pe_ix ix_seq (j_peek 1 (pv 1)) (j_peek 12 (pv 12)) (fun _ _ => rfl))))))))) (j_seq (j_asg (sg_name (i := 8) (vs := [8]) (by decide)) (ps_set (i := 8) sc__law_sources.nd rfl (Or.inl rfl) (j_if (j_cmpT sp_ne (pt_cmpR (op_neD hr.units) (j_peek 7 (pv 7)) (lw (j_disp j_an)) (nomark _))) (j_callD d__law_draw hr (by decide) (by rfl) (j_ac (j_var 0 (pv 0)) (j_ac (j_c pe_int (.int 4)) j_an)) (fun ρ S ds S' z => len_2 z) rfl) (j_c pe_int (.int 0))))) (j_seq (j_asg (sg_name (i := 9) (vs := [9]) (by decide)) (ps_set (i := 9) sc__law_sources.nd rfl (Or.inl rfl) (j_cb sp_tuple (pe_callTy call_tuple_of (by rfl) T.b_tuple (by decide +kernel) (j_acW (lw (j_sortedSet rfl (by rfl) T.b_sorted (by rfl) T.b_set (lw (j_comp (sg_name (i := 13) (vs := [13]) (by decide)) (pe_lc (own := [("_law_lap", 13)]) (g := (gName 13)) (tt := tT _ _ cYes) (te := tV _ _ (eCall f__law_pick (aC (eV 0) (aC (eV 7) aN)))) (by rfl) sc__law_sources.nd (j_iw (j_rg1 (pi_range1 (by rfl) T.b_range (j_acW (j_peek 8 (pv 8)) j_anW)))) (blkOk_by (own := [("_law_lap", 13)]) (N := N__law_sources) (sc := (defScope s__law_sources)) (by decide +kernel)) (fun _ _ _ _ _ => (pg_name (i := 13) sc__law_sources.nd rfl (Or.inl rfl))) (fun _ _ _ _ _ => j_yes) (fun _ _ _ _ _ => (j_callD d__law_pick hr (by decide) (by rfl) (j_ac (j_var 0 (pv 0)) (j_ac (j_var 7 (pv 7)) j_an)) (fun ρ S ds S' z => len_2 z) rfl))))))) j_anW))))) (j_seq (j_asg (sg_name (i := 10) (vs := [10]) (by decide)) (ps_set (i := 10) sc__law_sources.nd rfl (Or.inl rfl) (j_cb sp_tuple (pe_callTy call_tuple_of (by rfl) T.b_tuple (by decide +kernel) (j_acW (lw (j_sortedSet rfl (by rfl) T.b_sorted (by rfl) T.b_set (lw (j_comp (sg_name (i := 13) (vs := [13]) (by decide)) (pe_lc (own := [("_law_lap", 13)]) (g := (gName 13)) (tt := tT _ _ cYes) (te := tV _ _ (eCall f__law_pick (aC (eV 0) (aC (eV 2) aN)))) (by rfl) sc__law_sources.nd (j_iw (j_rg1 (pi_range1 (by rfl) T.b_range (j_acW (vw (j_callD d__law_draw hr (by decide) (by rfl) (j_ac (j_var 0 (pv 0)) (j_ac (j_c pe_int (.int 3)) j_an)) (fun ρ S ds S' z => len_2 z) rfl)) j_anW)))) (blkOk_by (own := [("_law_lap", 13)]) (N := N__law_sources) (sc := (defScope s__law_sources)) (by decide +kernel)) (fun _ _ _ _ _ => (pg_name (i := 13) sc__law_sources.nd rfl (Or.inl rfl))) (fun _ _ _ _ _ => j_yes) (fun _ _ _ _ _ => (j_callD d__law_pick hr (by decide) (by rfl) (j_ac (j_var 0 (pv 0)) (j_ac (j_var 2 (pv 2)) j_an)) (fun ρ S ds S' z => len_2 z) rfl))))))) j_anW))))) (j_seq (j_asg (sg_name (i := 11) (vs := [11]) (by decide)) (ps_set (i := 11) sc__law_sources.nd rfl (Or.inl rfl) (j_op sp_gt (pe_cmpR op_gtJ (vw (j_callD d__law_draw hr (by decide) (by rfl) (j_ac (j_var 0 (pv 0)) (j_ac (j_c pe_int (.int 3)) j_an)) (fun ρ S ds S' z => len_2 z) rfl)) (vw (j_c pe_int (.int 0))) (nomark _))))) (j_last (j_app (ps_expr (pe_bm PySem.F.plainAttrs_list PySem.F.slot_list_append PySem.F.type_list_append mt_append (pv 4) (pa_cons (j_tup (j_ac (j_var 6 (pv 6)) (j_ac (j_callD d__law_pick hr (by decide) (by rfl) (j_ac (j_var 0 (pv 0)) (j_ac (j_var 2 (pv 2)) j_an)) (fun ρ S ds S' z => len_2 z) rfl) (j_ac (j_var 10 (pv 10)) (j_ac (j_var 11 (pv 11)) (j_ac (j_var 9 (pv 9)) j_an)))))) pa_nil)))))))))))) (j_last (j_ret (j_cb sp_tuple (pe_callTy call_tuple_of (by rfl) T.b_tuple (by decide +kernel) (j_acW (j_peek 4 (pv 4)) j_anW))))))) : PSs _ _ (tS _ _ _ F0 α0 H g__law_sources))
abbrev s__law_weight : Stmt := top 38
abbrev N__law_weight : List Str := ["_law_feed_here", "_law_way"]
theorem sc__law_weight : FnScope N__law_weight ["_law_feed_here"] (defScope s__law_weight) := ⟨rfl, rfl, rfl, by decide +kernel, rfl, by decide +kernel, by decide +kernel⟩
def g__law_weight : GS := (sSeq (sSet (eCall f__law_draw (aC (eV 0) (aC (eC (.int 4)) aN))) (bName 1)) (sSeq (sIf (tOf (e2 (gEq false) (eP 1) (eC (.int 0)))) (sRet (e2 gAdd (e2 gAdd (eC (.int 1)) (e2 (gI CMulW fun i j => i * j) (eCall f__law_draw (aC (eV 0) (aC (e2 (gI CPow fun i j => i ^ j.toNat) (eC (.int 10)) (eC (.int 6))) aN))) (e2 (gI CPow fun i j => i ^ j.toNat) (eC (.int 10)) (eC (.int 53))))) (eCall f__law_draw (aC (eV 0) (aC (e2 (gI CPow fun i j => i ^ j.toNat) (eC (.int 10)) (eC (.int 6))) aN))))) sNil) (sRet (e2 gAdd (eC (.int 1)) (eCall f__law_draw (aC (eV 0) (aC (e2 gIx (eL (lDisp (aC (eC (.int 3)) (aC (eC (.int 12)) (aC (eC (.int 1200)) aN))))) (e2 (gI0 fun i j => i - j) (eP 1) (eC (.int 1)))) aN)))))))
def f__law_weight : FN := runDef 2 g__law_weight
theorem ok__law_weight {P : Program} {w : World} {K : PySem.W.Frag} {Θ : TL} {mg : Str → Option Value} {base : Heap} (h : HereD K mg "_law_weight" "_law_weight" s__law_weight ["_law_feed_here"]) (T : Txt K mg) (d__law_draw : Does P w K Θ mg base 1 "_law_draw" ["_law_feed_here", "_law_many"] f__law_draw) : Does P w K Θ mg base 2 "_law_weight" ["_law_feed_here"] f__law_weight :=
  dd_of h sc__law_weight fun fa cdv A outer s H E F0 α0 hr => ((j_seq (j_asg (sg_name (i := 1) (vs := [1]) (by decide)) (ps_set (i := 1) sc__law_weight.nd rfl (Or.inl rfl) (j_callD d__law_draw hr (by decide) (by rfl) (j_ac (j_var 0 (pv 0)) (j_ac (j_c pe_int (.int 4)) j_an)) (fun ρ S ds S' z => len_2 z) rfl))) (j_seq (j_ifS (j_cmpT sp_eq (pt_cmpR (op_eqD hr.units) (j_peek 1 (pv 1)) (vw (j_c pe_int (.int 0))) (nomark _))) (j_last (j_ret (j_op sp_add (pe_op op_addJ (vw (j_op sp_add (pe_op op_addJ (vw (j_c pe_int (.int 1))) (vw (j_op sp_I (pe_op op_mulW (vw (j_callD d__law_draw hr (by decide) (by rfl) (j_ac (j_var 0 (pv 0)) (j_ac (j_op sp_I (pe_op op_pow (vw (j_c pe_int (.int 10))) (vw (j_c pe_int (.int 6))))) j_an)) (fun ρ S ds S' z => len_2 z) rfl)) (vw (j_op sp_I (pe_op op_pow (vw (j_c pe_int (.int 10))) (vw (j_c pe_int (.int 53)))))))))))) (vw (j_callD d__law_draw hr (by decide) (by rfl) (j_ac (j_var 0 (pv 0)) (j_ac (j_op sp_I (pe_op op_pow (vw (j_c pe_int (.int 10))) (vw (j_c pe_int (.int 6))))) j_an)) (fun ρ S ds S' z => len_2 z) rfl)))))) j_nil) (j_last (j_ret (j_op sp_add (pe_op op_addJ (vw (j_c pe_int (.int 1))) (vw (j_callD d__law_draw hr (by decide) (by rfl) (j_ac (j_var 0 (pv 0)) (j_ac (j_op sp_ix (pe_ix ix_seq (lw (j_disp (j_ac (j_c pe_int (.int 3)) (j_ac (j_c pe_int (.int 12)) (j_ac (j_c pe_int (.int 1200)) j_an))))) (vw (j_op sp_I0 (pe_op op_sub (j_peek 1 (pv 1)) (vw (j_c pe_int (.int 1)))))) (fun _ _ => rfl))) j_an)) (fun ρ S ds S' z => len_2 z) rfl)))))))) : PSs _ _ (tS _ _ _ F0 α0 H g__law_weight))
abbrev s__law_build : Stmt := top 39
abbrev N__law_build : List Str := ["_law_feed_here", "_law_whole", "_law_blobs", "_law_source", "_law_one", "_law_given", "_law_use"]
theorem sc__law_build : FnScope N__law_build ["_law_feed_here", "_law_whole", "_law_blobs"] (defScope s__law_build) := ⟨rfl, rfl, rfl, by decide +kernel, rfl, by decide +kernel, by decide +kernel⟩
def g__law_build : GS := (sSeq (sPar [3, 4] (mD (eCall f__law_pick (aC (eV 0) (aC (e2 gIx (eP 1) (eC (.int 0))) aN))) (mD (eCall f__law_pick (aC (eV 0) (aC (e2 gIx (eP 1) (eC (.int 1))) aN))) mN))) (sSeq (sIf (tOf (e2 (gEq false) (eCall f__law_draw (aC (eV 0) (aC (eC (.int 4)) aN))) (eC (.int 0)))) (sRet (eTup (aC (e2 gIx (eP 4) (eC (.int 0))) (aC (eC .non) (aC (e2 gIx (eP 3) (eC (.int 0))) (aC (eTup aN) (aC (eCall f__law_pick (aC (eV 0) (aC (eV 2) aN))) aN))))))) sNil) (sSeq (sSet (aG gTuple (aC (eL (lComp [6] (iOf (e2 gIx (eP 3) (eC (.int 4)))) (bName 6) cYes (eCall f__law_pick (aC (eV 0) (aC (eV 2) aN))))) aN)) (bName 5)) (sRet (eTup (aC (e2 gIx (eP 4) (eC (.int 0))) (aC (eCall f__law_pick (aC (eV 0) (aC (eV 2) aN))) (aC (e2 gIx (eP 3) (eC (.int 0))) (aC (eV 5) (aC (eCall f__law_pick (aC (eV 0) (aC (eV 2) aN))) aN))))))))))
def f__law_build : FN := runDef 7 g__law_build
theorem ok__law_build {P : Program} {w : World} {K : PySem.W.Frag} {Θ : TL} {mg : Str → Option Value} {base : Heap} (h : HereD K mg "_law_build" "_law_build" s__law_build ["_law_feed_here", "_law_whole", "_law_blobs"]) (T : Txt K mg) (d__law_pick : Does P w K Θ mg base 2 "_law_pick" ["_law_feed_here", "_law_things"] f__law_pick) (d__law_draw : Does P w K Θ mg base 1 "_law_draw" ["_law_feed_here", "_law_many"] f__law_draw) : Does P w K Θ mg base 3 "_law_build" ["_law_feed_here", "_law_whole", "_law_blobs"] f__law_build :=
  dd_of h sc__law_build fun fa cdv A outer s H E F0 α0 hr => ((j_seq (j_par2 (ps_par (i := 3) (j := 4) (by rfl) sc__law_build.nd rfl rfl (by decide) rfl rfl (j_md (j_callD d__law_pick hr (by decide) (by rfl) (j_ac (j_var 0 (pv 0)) (j_ac (j_op sp_ix (pe_ix ix_seq (j_peek 1 (pv 1)) (vw (j_c pe_int (.int 0))) (fun _ _ => rfl))) j_an)) (fun ρ S ds S' z => len_2 z) rfl) (j_md (j_callD d__law_pick hr (by decide) (by rfl) (j_ac (j_var 0 (pv 0)) (j_ac (j_op sp_ix (pe_ix ix_seq (j_peek 1 (pv 1)) (vw (j_c pe_int (.int 1))) (fun _ _ => rfl))) j_an)) (fun ρ S ds S' z => len_2 z) rfl) j_mn)) (by rfl))) (j_seq (j_ifS (j_cmpT sp_eq (pt_cmpR (op_eqD hr.units) (vw (j_callD d__law_draw hr (by decide) (by rfl) (j_ac (j_var 0 (pv 0)) (j_ac (j_c pe_int (.int 4)) j_an)) (fun ρ S ds S' z => len_2 z) rfl)) (vw (j_c pe_int (.int 0))) (nomark _))) (j_last (j_ret (j_tup (j_ac (j_op sp_ix (pe_ix ix_seq (j_peek 4 (pv 4)) (vw (j_c pe_int (.int 0))) (fun _ _ => rfl))) (j_ac (j_c pe_non .non) (j_ac (j_op sp_ix (pe_ix ix_seq (j_peek 3 (pv 3)) (vw (j_c pe_int (.int 0))) (fun _ _ => rfl))) (j_ac (j_tup j_an) (j_ac (j_callD d__law_pick hr (by decide) (by rfl) (j_ac (j_var 0 (pv 0)) (j_ac (j_var 2 (pv 2)) j_an)) (fun ρ S ds S' z => len_2 z) rfl) j_an)))))))) j_nil) (j_seq (j_asg (sg_name (i := 5) (vs := [5]) (by decide)) (ps_set (i := 5) sc__law_build.nd rfl (Or.inl rfl) (j_cb sp_tuple (pe_callTy call_tuple_of (by rfl) T.b_tuple (by decide +kernel) (j_acW (lw (j_comp (sg_name (i := 6) (vs := [6]) (by decide)) (pe_lc (own := [("_law_use", 6)]) (g := (gName 6)) (tt := tT _ _ cYes) (te := tV _ _ (eCall f__law_pick (aC (eV 0) (aC (eV 2) aN)))) (by rfl) sc__law_build.nd (j_itW (vw (j_op sp_ix (pe_ix ix_seq (j_peek 3 (pv 3)) (vw (j_c pe_int (.int 4))) (fun _ _ => rfl))))) (blkOk_by (own := [("_law_use", 6)]) (N := N__law_build) (sc := (defScope s__law_build)) (by decide +kernel)) (fun _ _ _ _ _ => (pg_name (i := 6) sc__law_build.nd rfl (Or.inl rfl))) (fun _ _ _ _ _ => j_yes) (fun _ _ _ _ _ => (j_callD d__law_pick hr (by decide) (by rfl) (j_ac (j_var 0 (pv 0)) (j_ac (j_var 2 (pv 2)) j_an)) (fun ρ S ds S' z => len_2 z) rfl))))) j_anW))))) (j_last (j_ret (j_tup (j_ac (j_op sp_ix (pe_ix ix_seq (j_peek 4 (pv 4)) (vw (j_c pe_int (.int 0))) (fun _ _ => rfl))) (j_ac (j_callD d__law_pick hr (by decide) (by rfl) (j_ac (j_var 0 (pv 0)) (j_ac (j_var 2 (pv 2)) j_an)) (fun ρ S ds S' z => len_2 z) rfl) (j_ac (j_op sp_ix (pe_ix ix_seq (j_peek 3 (pv 3)) (vw (j_c pe_int (.int 0))) (fun _ _ => rfl))) (j_ac (j_var 5 (pv 5)) (j_ac (j_callD d__law_pick hr (by decide) (by rfl) (j_ac (j_var 0 (pv 0)) (j_ac (j_var 2 (pv 2)) j_an)) (fun ρ S ds S' z => len_2 z) rfl) j_an))))))))))) : PSs _ _ (tS _ _ _ F0 α0 H g__law_build))
abbrev s__law_book : Stmt := top 40
abbrev N__law_book : List Str := ["_law_feed_here", "_law_names_here", "_law_folk", "_law_blobs", "_law_first", "_law_whole", "_law_pairs", "_law_found", "_law_i", "_law_many", "_law_lap", "_law_build_here", "_law_name"]
theorem sc__law_book : FnScope N__law_book ["_law_feed_here"] (defScope s__law_book) := ⟨rfl, rfl, rfl, by decide +kernel, rfl, by decide +kernel, by decide +kernel⟩
def g__law_book : GS := (sSeq (sSet (eL (aGL gSortedS (aC (eCall f__law_names (aC (eV 0) (aC (e2 gIx (eL (lDisp (aC (eC (.int 2)) (aC (eC (.int 3)) (aC (eC (.int 1)) (aC (eC (.int 4)) (aC (eC (.int 2)) (aC (eC (.int 6)) (aC (eC (.int 0)) (aC (eC (.int 3)) aN)))))))))) (eCall f__law_draw (aC (eV 0) (aC (eC (.int 8)) aN)))) aN))) aN))) (bName 1)) (sSeq (sSet (eL (aGL gSortedS (aC (eCall f__law_names (aC (eV 0) (aC (e2 gIx (eL (lDisp (aC (eC (.int 2)) (aC (eC (.int 3)) (aC (eC (.int 1)) (aC (eC (.int 5)) (aC (eC (.int 2)) (aC (eC (.int 0)) (aC (eC (.int 4)) (aC (eC (.int 3)) aN)))))))))) (eCall f__law_draw (aC (eV 0) (aC (eC (.int 8)) aN)))) aN))) aN))) (bName 2)) (sSeq (sSet (eCall f__law_names (aC (eV 0) (aC (e2 gIx (eL (lDisp (aC (eC (.int 3)) (aC (eC (.int 5)) (aC (eC (.int 1)) (aC (eC (.int 7)) aN)))))) (eCall f__law_draw (aC (eV 0) (aC (eC (.int 4)) aN)))) aN))) (bName 3)) (sSeq (sIf (tOf (e2 (gEq false) (eCall f__law_draw (aC (eV 0) (aC (eC (.int 4)) aN))) (eC (.int 0)))) (sSet (e2 gAdd (e2 gAdd (eP 3) (eP 1)) (eP 2)) (bName 3)) sNil) (sSeq (sSet (eCall f__law_sources (aC (eV 0) (aC (eV 1) (aC (eCall f__law_names (aC (eV 0) (aC (e2 gAdd (eC (.int 1)) (eCall f__law_draw (aC (eV 0) (aC (eC (.int 3)) aN)))) aN))) aN)))) (bName 4)) (sSeq (sSet (eTup (aC (eV 4) (aC (aG gTuple (aC (eL (lComp [12] (iOf (eP 2)) (bName 12) cYes (eTup (aC (eV 12) (aC (eCall f__law_weight (aC (eV 0) aN)) aN))))) aN)) aN))) (bName 5)) (sSeq (sPar [6, 7] (mO (lDisp aN) (mO (lDisp aN) mN))) (sSeq (sFor (iRg1 (aC (aG gLen (aC (eP 1) aN)) aN)) (bName 8) (sExt 6 (eL (lComp [12] (iOf (eSl (eP 1) (oS (e2 gAdd (eP 8) (eC (.int 1)))) oN)) (bName 12) (tOf (e2 (gEq false) (eCall f__law_draw (aC (eV 0) (aC (eC (.int 3)) aN))) (eC (.int 0)))) (eTup (aC (e2 gIx (eP 1) (eP 8)) (aC (eV 12) aN))))))) (sSeq (sSet (e2 gIx (eL (lDisp (aC (eC (.int 4)) (aC (eC (.int 6)) (aC (eC (.int 2)) (aC (eC (.int 9)) (aC (eC (.int 16)) (aC (eC (.int 0)) (aC (eC (.int 5)) (aC (eC (.int 3)) aN)))))))))) (eCall f__law_draw (aC (eV 0) (aC (eC (.int 8)) aN)))) (bName 9)) (sSeq (sFor (iRg1 (aC (eIf (tAndJ (tOf (e2 (gEq true) (eP 1) (eL (lDisp aN)))) (tOf (e2 (gEq true) (eP 2) (eL (lDisp aN))))) (eV 9) (eC (.int 0))) aN)) (bName 10) (sSeq (sSet (eCall f__law_build (aC (eV 0) (aC (eV 5) (aC (eV 3) aN)))) (bName 11)) (sIf (tOf (e2 (gIn true) (eP 11) (eP 7))) (sApp 7 (eV 11)) sNil))) (sRet (e2 gAdd (eP 5) (eTup (aC (aG gTuple (aC (eP 6) aN)) (aC (aG gTuple (aC (eP 7) aN)) aN)))))))))))))))
def f__law_book : FN := runDef 13 g__law_book
theorem ok__law_book {P : Program} {w : World} {K : PySem.W.Frag} {Θ : TL} {mg : Str → Option Value} {base : Heap} (h : HereD K mg "_law_book" "_law_book" s__law_book ["_law_feed_here"]) (T : Txt K mg) (d__law_names : Does P w K Θ mg base 3 "_law_names" ["_law_feed_here", "_law_many"] f__law_names) (d__law_draw : Does P w K Θ mg base 1 "_law_draw" ["_law_feed_here", "_law_many"] f__law_draw) (d__law_sources : Does P w K Θ mg base 3 "_law_sources" ["_law_feed_here", "_law_names_here", "_law_tongues"] f__law_sources) (d__law_weight : Does P w K Θ mg base 2 "_law_weight" ["_law_feed_here"] f__law_weight) (d__law_build : Does P w K Θ mg base 3 "_law_build" ["_law_feed_here", "_law_whole", "_law_blobs"] f__law_build) : Does P w K Θ mg base 4 "_law_book" ["_law_feed_here"] f__law_book :=
  dd_of h sc__law_book fun fa cdv A outer s H E F0 α0 hr => ((j_seq (j_asg (sg_name (i := 1) (vs := [1]) (by decide)) (j_setV (i := 0) (ps_set (i := 1) sc__law_book.nd rfl (Or.inr rfl) (j_cbL sp_sortedS (pe_callB cr_sortedS (by rfl) T.b_sorted (by decide +kernel) (j_acW (vw (j_callD d__law_names hr (by decide) (by rfl) (j_ac (j_var 0 (pv 0)) (j_ac (j_op sp_ix (pe_ix ix_seq (lw (j_disp (j_ac (j_c pe_int (.int 2)) (j_ac (j_c pe_int (.int 3)) (j_ac (j_c pe_int (.int 1)) (j_ac (j_c pe_int (.int 4)) (j_ac (j_c pe_int (.int 2)) (j_ac (j_c pe_int (.int 6)) (j_ac (j_c pe_int (.int 0)) (j_ac (j_c pe_int (.int 3)) j_an)))))))))) (vw (j_callD d__law_draw hr (by decide) (by rfl) (j_ac (j_var 0 (pv 0)) (j_ac (j_c pe_int (.int 8)) j_an)) (fun ρ S ds S' z => len_2 z) rfl)) (fun _ _ => rfl))) j_an)) (fun ρ S ds S' z => len_2 z) rfl)) j_anW)))))) (j_seq (j_asg (sg_name (i := 2) (vs := [2]) (by decide)) (j_setV (i := 0) (ps_set (i := 2) sc__law_book.nd rfl (Or.inl rfl) (j_cbL sp_sortedS (pe_callB cr_sortedS (by rfl) T.b_sorted (by decide +kernel) (j_acW (vw (j_callD d__law_names hr (by decide) (by rfl) (j_ac (j_var 0 (pv 0)) (j_ac (j_op sp_ix (pe_ix ix_seq (lw (j_disp (j_ac (j_c pe_int (.int 2)) (j_ac (j_c pe_int (.int 3)) (j_ac (j_c pe_int (.int 1)) (j_ac (j_c pe_int (.int 5)) (j_ac (j_c pe_int (.int 2)) (j_ac (j_c pe_int (.int 0)) (j_ac (j_c pe_int (.int 4)) (j_ac (j_c pe_int (.int 3)) j_an)))))))))) (vw (j_callD d__law_draw hr (by decide) (by rfl) (j_ac (j_var 0 (pv 0)) (j_ac (j_c pe_int (.int 8)) j_an)) (fun ρ S ds S' z => len_2 z) rfl)) (fun _ _ => rfl))) j_an)) (fun ρ S ds S' z => len_2 z) rfl)) j_anW)))))) (j_seq (j_asg (sg_name (i := 3) (vs := [3]) (by decide)) (ps_set (i := 3) sc__law_book.nd rfl (Or.inl rfl) (j_callD d__law_names hr (by decide) (by rfl) (j_ac (j_var 0 (pv 0)) (j_ac (j_op sp_ix (pe_ix ix_seq (lw (j_disp (j_ac (j_c pe_int (.int 3)) (j_ac (j_c pe_int (.int 5)) (j_ac (j_c pe_int (.int 1)) (j_ac (j_c pe_int (.int 7)) j_an)))))) (vw (j_callD d__law_draw hr (by decide) (by rfl) (j_ac (j_var 0 (pv 0)) (j_ac (j_c pe_int (.int 4)) j_an)) (fun ρ S ds S' z => len_2 z) rfl)) (fun _ _ => rfl))) j_an)) (fun ρ S ds S' z => len_2 z) rfl))) (j_seq (j_ifS (j_cmpT sp_eq (pt_cmpR (op_eqD hr.units) (vw (j_callD d__law_draw hr (by decide) (by rfl) (j_ac (j_var 0 (pv 0)) (j_ac (j_c pe_int (.int 4)) j_an)) (fun ρ S ds S' z => len_2 z) rfl)) (vw (j_c pe_int (.int 0))) (nomark _))) (j_last (j_asg (sg_name (i := 3) (vs := [3]) (by decide)) (ps_set (i := 3) sc__law_book.nd rfl (Or.inl rfl) (j_op sp_add (pe_op op_addJ (vw (j_op sp_add (pe_op op_addJ (j_peek 3 (pv 3)) (j_peek 1 (pv 1))))) (j_peek 2 (pv 2))))))) j_nil) (j_seq (j_asg (sg_name (i := 4) (vs := [4]) (by decide)) (ps_set (i := 4) sc__law_book.nd rfl (Or.inl rfl) (j_callD d__law_sources hr (by decide) (by rfl) (j_ac (j_var 0 (pv 0)) (j_ac (j_var 1 (pv 1)) (j_ac (j_callD d__law_names hr (by decide) (by rfl) (j_ac (j_var 0 (pv 0)) (j_ac (j_op sp_add (pe_op op_addJ (vw (j_c pe_int (.int 1))) (vw (j_callD d__law_draw hr (by decide) (by rfl) (j_ac (j_var 0 (pv 0)) (j_ac (j_c pe_int (.int 3)) j_an)) (fun ρ S ds S' z => len_2 z) rfl)))) j_an)) (fun ρ S ds S' z => len_2 z) rfl) j_an))) (fun ρ S ds S' z => len_3 z) rfl))) (j_seq (j_asg (sg_name (i := 5) (vs := [5]) (by decide)) (ps_set (i := 5) sc__law_book.nd rfl (Or.inl rfl) (j_tup (j_ac (j_var 4 (pv 4)) (j_ac (j_cb sp_tuple (pe_callTy call_tuple_of (by rfl) T.b_tuple (by decide +kernel) (j_acW (lw (j_comp (sg_name (i := 12) (vs := [12]) (by decide)) (pe_lc (own := [("_law_name", 12)]) (g := (gName 12)) (tt := tT _ _ cYes) (te := tV _ _ (eTup (aC (eV 12) (aC (eCall f__law_weight (aC (eV 0) aN)) aN)))) (by rfl) sc__law_book.nd (j_itW (j_peek 2 (pv 2))) (blkOk_by (own := [("_law_name", 12)]) (N := N__law_book) (sc := (defScope s__law_book)) (by decide +kernel)) (fun _ _ _ _ _ => (pg_name (i := 12) sc__law_book.nd rfl (Or.inl rfl))) (fun _ _ _ _ _ => j_yes) (fun _ _ _ _ _ => (j_tup (j_ac (j_var 12 (pv 12)) (j_ac (j_callD d__law_weight hr (by decide) (by rfl) (j_ac (j_var 0 (pv 0)) j_an) (fun ρ S ds S' z => len_1 z) rfl) j_an))))))) j_anW))) j_an))))) (j_seq (j_par2 (ps_par (i := 6) (j := 7) (by rfl) sc__law_book.nd rfl rfl (by decide) rfl rfl (j_mo (j_disp j_an) (j_mo (j_disp j_an) j_mn)) (by rfl))) (j_seq (j_for (sg_name (i := 8) (vs := [8]) (by decide)) (ps_for PassesOwn.never rfl (j_rg1 (pi_range1 (by rfl) T.b_range (j_acW (vw (j_cb sp_len (pe_callB call_lenJ (by rfl) T.b_len PySem.boot_len (j_acW (j_peek 1 (pv 1)) j_anW)))) j_anW))) (pg_name (i := 8) sc__law_book.nd rfl (Or.inr rfl)) (j_last (j_ext (ps_expr (pe_bm PySem.F.plainAttrs_list PySem.F.slot_list_extend PySem.F.type_list_extend mt_extend (pv 6) (pa_cons (lw (j_comp (sg_name (i := 12) (vs := [12]) (by decide)) (pe_lc (own := [("_law_name", 12)]) (g := (gName 12)) (tt := tT _ _ (tOf (e2 (gEq false) (eCall f__law_draw (aC (eV 0) (aC (eC (.int 3)) aN))) (eC (.int 0))))) (te := tV _ _ (eTup (aC (e2 gIx (eP 1) (eP 8)) (aC (eV 12) aN)))) (by rfl) sc__law_book.nd (j_itW (vw (j_sl (j_peek 1 (pv 1)) (j_oS (j_op sp_add (pe_op op_addJ (j_peek 8 (pv 8)) (vw (j_c pe_int (.int 1)))))) j_oN))) (blkOk_by (own := [("_law_name", 12)]) (N := N__law_book) (sc := (defScope s__law_book)) (by decide +kernel)) (fun _ _ _ _ _ => (pg_name (i := 12) sc__law_book.nd rfl (Or.inl rfl))) (fun _ _ _ _ _ => (pts_one (j_cmpT sp_eq (pt_cmpR (op_eqD hr.units) (vw (j_callD d__law_draw hr (by decide) (by rfl) (j_ac (j_var 0 (pv 0)) (j_ac (j_c pe_int (.int 3)) j_an)) (fun ρ S ds S' z => len_2 z) rfl)) (vw (j_c pe_int (.int 0))) (nomark _))))) (fun _ _ _ _ _ => (j_tup (j_ac (j_op sp_ix (pe_ix ix_seq (j_peek 1 (pv 1)) (j_peek 8 (pv 8)) (fun _ _ => rfl))) (j_ac (j_var 12 (pv 12)) j_an))))))) pa_nil))))))) (j_seq (j_asg (sg_name (i := 9) (vs := [9]) (by decide)) (ps_set (i := 9) sc__law_book.nd rfl (Or.inl rfl) (j_op sp_ix (pe_ix ix_seq (lw (j_disp (j_ac (j_c pe_int (.int 4)) (j_ac (j_c pe_int (.int 6)) (j_ac (j_c pe_int (.int 2)) (j_ac (j_c pe_int (.int 9)) (j_ac (j_c pe_int (.int 16)) (j_ac (j_c pe_int (.int 0)) (j_ac (j_c pe_int (.int 5)) (j_ac (j_c pe_int (.int 3)) j_an)))))))))) (vw (j_callD d__law_draw hr (by decide) (by rfl) (j_ac (j_var 0 (pv 0)) (j_ac (j_c pe_int (.int 8)) j_an)) (fun ρ S ds S' z => len_2 z) rfl)) (fun _ _ => rfl))))) (j_seq (j_for (sg_name (i := 10) (vs := [10]) (by decide)) (ps_for PassesOwn.never rfl (j_rg1 (pi_range1 (by rfl) T.b_range (j_acW (vw (j_if (PW.pt (j_and (j_cmpT sp_ne (pt_cmpR (op_neD hr.units) (j_peek 1 (pv 1)) (lw (j_disp j_an)) (nomark _))) (j_and1 (j_cmpT sp_ne (pt_cmpR (op_neD hr.units) (j_peek 2 (pv 2)) (lw (j_disp j_an)) (nomark _)))))) (j_var 9 (pv 9)) (j_c pe_int (.int 0)))) j_anW))) (pg_name (i := 10) sc__law_book.nd rfl (Or.inl rfl)) (j_seq (j_asg (sg_name (i := 11) (vs := [11]) (by decide)) (ps_set (i := 11) sc__law_book.nd rfl (Or.inl rfl) (j_callD d__law_build hr (by decide) (by rfl) (j_ac (j_var 0 (pv 0)) (j_ac (j_var 5 (pv 5)) (j_ac (j_var 3 (pv 3)) j_an))) (fun ρ S ds S' z => len_3 z) rfl))) (j_last (j_ifS (j_cmpT sp_in (pt_cmpR (op_notInJ (hu65 hr)) (j_peek 11 (pv 11)) (j_peek 7 (pv 7)) (by with_unfolding_all rfl))) (j_last (j_app (ps_expr (pe_bm PySem.F.plainAttrs_list PySem.F.slot_list_append PySem.F.type_list_append mt_append (pv 7) (pa_cons (j_var 11 (pv 11)) pa_nil))))) j_nil))))) (j_last (j_ret (j_op sp_add (pe_op op_addJ (j_peek 5 (pv 5)) (vw (j_tup (j_ac (j_cb sp_tuple (pe_callTy call_tuple_of (by rfl) T.b_tuple (by decide +kernel) (j_acW (j_peek 6 (pv 6)) j_anW))) (j_ac (j_cb sp_tuple (pe_callTy call_tuple_of (by rfl) T.b_tuple (by decide +kernel) (j_acW (j_peek 7 (pv 7)) j_anW))) j_an)))))))))))))))))) : PSs _ _ (tS _ _ _ F0 α0 H g__law_book))
abbrev s__law_is_name : Stmt := top 41
abbrev N__law_is_name : List Str := ["_law_thing", "_law_signs", "_law_sign"]
theorem sc__law_is_name : FnScope N__law_is_name ["_law_thing"] (defScope s__law_is_name) := ⟨rfl, rfl, rfl, by decide +kernel, rfl, by decide +kernel, by decide +kernel⟩
def g__law_is_name : GS := (sSeq (sSet (eC (.str ("abcdefghijklmnopqrstuvwxyz0123456789" : Str))) (bName 1)) (sSeq (sIf (tOrJ (tNotJ (tTru (e1 (gIsi .str) (eP 0)))) (tNotJ (tOf (eCh gLe gLe (eC (.int 1)) (aG gLen (aC (eP 0) aN)) (eC (.int 8)))))) (sRet (eC (.bl false))) sNil) (sRet (eAnd (e2 (gIn false) (e2 gIx (eP 0) (eC (.int 0))) (eSl (eP 1) oN (oS (eC (.int 26))))) (e2 (gEq false) (eL (lComp [2] (iOf (eP 0)) (bName 2) (tOf (e2 (gIn true) (eP 2) (eP 1))) (eV 2))) (eL (lDisp aN)))))))
def f__law_is_name : FN := runDef 3 g__law_is_name
theorem ok__law_is_name {P : Program} {w : World} {K : PySem.W.Frag} {Θ : TL} {mg : Str → Option Value} {base : Heap} (h : HereD K mg "_law_is_name" "_law_is_name" s__law_is_name ["_law_thing"]) (T : Txt K mg) : Does P w K Θ mg base 1 "_law_is_name" ["_law_thing"] f__law_is_name :=
  dd_of h sc__law_is_name fun fa cdv A outer s H E F0 α0 hr => ((j_seq (j_asg (sg_name (i := 1) (vs := [1]) (by decide)) (ps_set (i := 1) sc__law_is_name.nd rfl (Or.inr rfl) (j_c pe_str (.str ("abcdefghijklmnopqrstuvwxyz0123456789" : Str))))) (j_seq (j_ifS (PW.pt (j_or (j_not (j_tru (vw (j_isi (T := .str) (pe_callB call_isi (by rfl) T.b_isinstance (by decide +kernel) (pa_cons (j_peek 0 (pv 0)) (pa_cons (pe_bltn (by rfl) T.b_str (by decide +kernel) rfl) pa_nil))))))) (j_or1 (j_not (j_chT sp_ord sp_ord (pt_chain op_leJ op_leJ (vw (j_c pe_int (.int 1))) (vw (j_cb sp_len (pe_callB call_lenJ (by rfl) T.b_len PySem.boot_len (j_acW (j_peek 0 (pv 0)) j_anW)))) (vw (j_c pe_int (.int 8))))))))) (j_last (j_ret (j_c pe_bl (.bl false)))) j_nil) (j_last (j_ret (j_andV (j_op sp_in (pe_cmpR (op_inJ (hu65 hr)) (vw (j_op sp_ix (pe_ix ix_seq (j_peek 0 (pv 0)) (vw (j_c pe_int (.int 0))) (fun _ _ => rfl)))) (vw (j_sl (j_peek 1 (pv 1)) j_oN (j_oS (j_c pe_int (.int 26))))) (by with_unfolding_all rfl))) (j_one (j_op sp_eq (pe_cmpR (op_eqD hr.units) (lw (j_comp (sg_name (i := 2) (vs := [2]) (by decide)) (pe_lc (own := [("_law_sign", 2)]) (g := (gName 2)) (tt := tT _ _ (tOf (e2 (gIn true) (eP 2) (eP 1)))) (te := tV _ _ (eV 2)) (by rfl) sc__law_is_name.nd (j_itW (j_peek 0 (pv 0))) (blkOk_by (own := [("_law_sign", 2)]) (N := N__law_is_name) (sc := (defScope s__law_is_name)) (by decide +kernel)) (fun _ _ _ _ _ => (pg_name (i := 2) sc__law_is_name.nd rfl (Or.inl rfl))) (fun _ _ _ _ _ => (pts_one (j_cmpT sp_in (pt_cmpR (op_notInJ (hu65 hr)) (j_peek 2 (pv 2)) (j_peek 1 (pv 1)) (by with_unfolding_all rfl))))) (fun _ _ _ _ _ => (j_var 2 (pv 2)))))) (lw (j_disp j_an)) (nomark _))))))))) : PSs _ _ (tS _ _ _ F0 α0 H g__law_is_name))
abbrev s__law_are_names : Stmt := top 42
abbrev N__law_are_names : List Str := ["_law_thing", "_law_name"]
theorem sc__law_are_names : FnScope N__law_are_names ["_law_thing"] (defScope s__law_are_names) := ⟨rfl, rfl, rfl, by decide +kernel, rfl, by decide +kernel, by decide +kernel⟩
def g__law_are_names : GS := (sRet (eAnd (e1 (gIsi .tuple) (eP 0)) (e2 (gEq false) (eL (lComp [1] (iOf (eP 0)) (bName 1) (tNotJ (tTru (eCall f__law_is_name (aC (eV 1) aN)))) (eV 1))) (eL (lDisp aN)))))
def f__law_are_names : FN := runDef 2 g__law_are_names
theorem ok__law_are_names {P : Program} {w : World} {K : PySem.W.Frag} {Θ : TL} {mg : Str → Option Value} {base : Heap} (h : HereD K mg "_law_are_names" "_law_are_names" s__law_are_names ["_law_thing"]) (T : Txt K mg) (d__law_is_name : Does P w K Θ mg base 1 "_law_is_name" ["_law_thing"] f__law_is_name) : Does P w K Θ mg base 2 "_law_are_names" ["_law_thing"] f__law_are_names :=
  dd_of h sc__law_are_names fun fa cdv A outer s H E F0 α0 hr => ((j_last (j_ret (j_andV (j_isi (T := .tuple) (pe_callB call_isi (by rfl) T.b_isinstance (by decide +kernel) (pa_cons (j_peek 0 (pv 0)) (pa_cons (pe_bltn (by rfl) T.b_tuple (by decide +kernel) rfl) pa_nil)))) (j_one (j_op sp_eq (pe_cmpR (op_eqD hr.units) (lw (j_comp (sg_name (i := 1) (vs := [1]) (by decide)) (pe_lc (own := [("_law_name", 1)]) (g := (gName 1)) (tt := tT _ _ (tNotJ (tTru (eCall f__law_is_name (aC (eV 1) aN))))) (te := tV _ _ (eV 1)) (by rfl) sc__law_are_names.nd (j_itW (j_peek 0 (pv 0))) (blkOk_by (own := [("_law_name", 1)]) (N := N__law_are_names) (sc := (defScope s__law_are_names)) (by decide +kernel)) (fun _ _ _ _ _ => (pg_name (i := 1) sc__law_are_names.nd rfl (Or.inl rfl))) (fun _ _ _ _ _ => (pts_one (j_not (j_tru (vw (j_callD d__law_is_name hr (by decide) (by rfl) (j_ac (j_var 1 (pv 1)) j_an) (fun ρ S ds S' z => len_1 z) rfl)))))) (fun _ _ _ _ _ => (j_var 1 (pv 1)))))) (lw (j_disp j_an)) (nomark _))))))) : PSs _ _ (tS _ _ _ F0 α0 H g__law_are_names))
abbrev s__law_is_set : Stmt := top 43
abbrev N__law_is_set : List Str := ["_law_thing", "_law_k"]
theorem sc__law_is_set : FnScope N__law_is_set ["_law_thing"] (defScope s__law_is_set) := ⟨rfl, rfl, rfl, by decide +kernel, rfl, by decide +kernel, by decide +kernel⟩
def g__law_is_set : GS := (sSeq (sIf (tNotJ (tTru (eCall f__law_are_names (aC (eV 0) aN)))) (sRet (eC (.bl false))) sNil) (sRet (e2 (gEq false) (eL (lComp [1] (iRg2 (aC (eC (.int 1)) (aC (aG gLen (aC (eP 0) aN)) aN))) (bName 1) (tOf (e2 gGe (e2 gIx (eP 0) (e2 (gI0 fun i j => i - j) (eP 1) (eC (.int 1)))) (e2 gIx (eP 0) (eP 1)))) (eV 1))) (eL (lDisp aN)))))
def f__law_is_set : FN := runDef 2 g__law_is_set
theorem ok__law_is_set {P : Program} {w : World} {K : PySem.W.Frag} {Θ : TL} {mg : Str → Option Value} {base : Heap} (h : HereD K mg "_law_is_set" "_law_is_set" s__law_is_set ["_law_thing"]) (T : Txt K mg) (d__law_are_names : Does P w K Θ mg base 2 "_law_are_names" ["_law_thing"] f__law_are_names) : Does P w K Θ mg base 3 "_law_is_set" ["_law_thing"] f__law_is_set :=
  dd_of h sc__law_is_set fun fa cdv A outer s H E F0 α0 hr => ((j_seq (j_ifS (j_not (j_tru (vw (j_callD d__law_are_names hr (by decide) (by rfl) (j_ac (j_var 0 (pv 0)) j_an) (fun ρ S ds S' z => len_1 z) rfl)))) (j_last (j_ret (j_c pe_bl (.bl false)))) j_nil) (j_last (j_ret (j_op sp_eq (pe_cmpR (op_eqD hr.units) (lw (j_comp (sg_name (i := 1) (vs := [1]) (by decide)) (pe_lc (own := [("_law_k", 1)]) (g := (gName 1)) (tt := tT _ _ (tOf (e2 gGe (e2 gIx (eP 0) (e2 (gI0 fun i j => i - j) (eP 1) (eC (.int 1)))) (e2 gIx (eP 0) (eP 1))))) (te := tV _ _ (eV 1)) (by rfl) sc__law_is_set.nd (j_iw (j_rg2 (pi_range2 (by rfl) T.b_range (j_acW (vw (j_c pe_int (.int 1))) (j_acW (vw (j_cb sp_len (pe_callB call_lenJ (by rfl) T.b_len PySem.boot_len (j_acW (j_peek 0 (pv 0)) j_anW)))) j_anW))))) (blkOk_by (own := [("_law_k", 1)]) (N := N__law_is_set) (sc := (defScope s__law_is_set)) (by decide +kernel)) (fun _ _ _ _ _ => (pg_name (i := 1) sc__law_is_set.nd rfl (Or.inl rfl))) (fun _ _ _ _ _ => (pts_one (j_cmpT sp_ord (pt_cmpR op_geJ (vw (j_op sp_ix (pe_ix ix_seq (j_peek 0 (pv 0)) (vw (j_op sp_I0 (pe_op op_sub (j_peek 1 (pv 1)) (vw (j_c pe_int (.int 1)))))) (fun _ _ => rfl)))) (vw (j_op sp_ix (pe_ix ix_seq (j_peek 0 (pv 0)) (j_peek 1 (pv 1)) (fun _ _ => rfl)))) (nomark _))))) (fun _ _ _ _ _ => (j_var 1 (pv 1)))))) (lw (j_disp j_an)) (nomark _)))))) : PSs _ _ (tS _ _ _ F0 α0 H g__law_is_set))
abbrev s__law_below : Stmt := top 44
abbrev N__law_below : List Str := ["_law_firsts", "_law_name", "_law_found", "_law_left", "_law_last", "_law_source", "_law_fresh", "_law_use"]
theorem sc__law_below : FnScope N__law_below ["_law_firsts", "_law_name"] (defScope s__law_below) := ⟨rfl, rfl, rfl, by decide +kernel, rfl, by decide +kernel, by decide +kernel⟩
def g__law_below : GS := (sSeq (sPar [2, 3] (mO (lDisp aN) (mO (lDisp (aC (eV 1) aN)) mN))) (sSeq (whileGo (tOf (e2 (gEq true) (eP 3) (eL (lDisp aN)))) (sSeq (sPop 4 3) (sFor (iOf (eV 0)) (bName 5) (sIf (tOf (e2 (gEq false) (e2 gIx (eP 5) (eC (.int 0))) (eP 4))) (sSeq (sSet (eL (lComp [7] (iOf (e2 gIx (eP 5) (eC (.int 4)))) (bName 7) (tOf (e2 (gIn true) (eP 7) (eP 2))) (eV 7))) (bName 6)) (sSeq (sExt 3 (eP 6)) (sExt 2 (eP 6)))) sNil))) fuelW) (sRet (aG gTuple (aC (eL (aGL gSortedS (aC (eP 2) aN))) aN)))))
def f__law_below : FN := runDef 8 g__law_below
theorem ok__law_below {P : Program} {w : World} {K : PySem.W.Frag} {Θ : TL} {mg : Str → Option Value} {base : Heap} (h : HereD K mg "_law_below" "_law_below" s__law_below ["_law_firsts", "_law_name"]) (T : Txt K mg) : Does P w K Θ mg base 1 "_law_below" ["_law_firsts", "_law_name"] f__law_below :=
  dd_of h sc__law_below fun fa cdv A outer s H E F0 α0 hr => ((j_seq (j_parC (is := [2, 3]) (ps_asg (pe_tup (j_mo (j_disp j_an) (j_mo (j_disp (j_ac (j_var 1 (pv 1)) j_an)) j_mn))) (pg_tup rfl (pgs_cons (pg_name (i := 2) sc__law_below.nd rfl (Or.inr rfl)) (pgs_cons (pg_name (i := 3) sc__law_below.nd rfl (Or.inl rfl)) pgs_nil)))) rfl (by decide)) (j_seq (j_while (n := fuelW) (ps_while PassesOwn.never (j_cmpT sp_ne (pt_cmpR (op_neD hr.units) (j_peek 3 (pv 3)) (lw (j_disp j_an)) (nomark _))) (j_seq (j_pop (ps_set (i := 4) sc__law_below.nd rfl (Or.inl rfl) (pe_bm0 PySem.F.plainAttrs_list PySem.F.slot_list_pop PySem.F.type_list_pop mt_pop (pv 3)))) (j_last (j_for (sg_name (i := 5) (vs := [5]) (by decide)) (ps_for PassesOwn.never rfl (j_it (j_var 0 (pv 0))) (pg_name (i := 5) sc__law_below.nd rfl (Or.inl rfl)) (j_last (j_ifS (j_cmpT sp_eq (pt_cmpR (op_eqD hr.units) (vw (j_op sp_ix (pe_ix ix_seq (j_peek 5 (pv 5)) (vw (j_c pe_int (.int 0))) (fun _ _ => rfl)))) (j_peek 4 (pv 4)) (nomark _))) (j_seq (j_asg (sg_name (i := 6) (vs := [6]) (by decide)) (j_setV (i := 0) (j_setC (sg_name (i := 7) (vs := [7]) (by decide)) (ps_setLc (i := 6) (own := [("_law_use", 7)]) (g := (gName 7)) (tt := tT _ _ (tOf (e2 (gIn true) (eP 7) (eP 2)))) (te := tV _ _ (eV 7)) (by rfl) sc__law_below.nd rfl rfl (sw_true rfl rfl rfl (by decide +kernel)) (j_itW (vw (j_op sp_ix (pe_ix ix_seq (j_peek 5 (pv 5)) (vw (j_c pe_int (.int 4))) (fun _ _ => rfl))))) (blkOk_by (own := [("_law_use", 7)]) (N := N__law_below) (sc := (defScope s__law_below)) (by decide +kernel)) (fun _ _ _ _ _ => (pg_name (i := 7) sc__law_below.nd rfl (Or.inl rfl))) (fun _ _ _ _ _ => (pts_one (j_cmpT sp_in (pt_cmpR (op_notInJ (hu65 hr)) (j_peek 7 (pv 7)) (j_peek 2 (pv 2)) (by with_unfolding_all rfl))))) (fun _ _ _ _ _ => (j_var 7 (pv 7))))))) (j_seq (j_ext (ps_expr (pe_bm PySem.F.plainAttrs_list PySem.F.slot_list_extend PySem.F.type_list_extend mt_extend (pv 3) (pa_cons (j_peek 6 (pv 6)) pa_nil)))) (j_last (j_ext (ps_expr (pe_bm PySem.F.plainAttrs_list PySem.F.slot_list_extend PySem.F.type_list_extend mt_extend (pv 2) (pa_cons (j_peek 6 (pv 6)) pa_nil))))))) j_nil)))))))) (j_last (j_ret (j_cb sp_tuple (pe_callTy call_tuple_of (by rfl) T.b_tuple (by decide +kernel) (j_acW (lw (j_cbL sp_sortedS (pe_callB cr_sortedS (by rfl) T.b_sorted (by decide +kernel) (j_acW (j_peek 2 (pv 2)) j_anW)))) j_anW))))))) : PSs _ _ (tS _ _ _ F0 α0 H g__law_below))
abbrev s__law_odd : Stmt := top 45
abbrev N__law_odd : List Str := ["_law_feed_here", "_law_odd_here"]
theorem sc__law_odd : FnScope N__law_odd ["_law_feed_here"] (defScope s__law_odd) := ⟨rfl, rfl, rfl, by decide +kernel, rfl, by decide +kernel, by decide +kernel⟩
def g__law_odd : GS := (sSeq (sSetL 1 (lDisp (aC (eC .non) (aC (eC (.bl true)) (aC (eC (.bl false)) (aC (eC (.int 0)) (aC (eC (.int 1)) (aC (e1 gNeg (eC (.int 1))) (aC (eC (.int 2)) (aC (e2 (gI CPow fun i j => i ^ j.toNat) (eC (.int 10)) (eC (.int 59))) (aC (eC (.str ("" : Str))) (aC (eC (.str ("a" : Str))) (aC (eC (.str ("b9" : Str))) (aC (eC (.str ("9a" : Str))) (aC (eC (.str ("A" : Str))) (aC (eC (.str ("abcdefgh" : Str))) (aC (eC (.str ("abcdefghi" : Str))) aN))))))))))))))))) (sSeq (sExt 1 (eL (lDisp (aC (eC (.str ("a b" : Str))) (aC (eC (.str ("-" : Str))) (aC (eC (.str ("a-" : Str))) (aC (eTup aN) (aC (eTup (aC (eC (.str ("a" : Str))) aN)) (aC (eTup (aC (eC (.str ("a" : Str))) (aC (eC (.str ("b" : Str))) aN))) (aC (eTup (aC (eC (.str ("b" : Str))) (aC (eC (.str ("a" : Str))) aN))) (aC (eTup (aC (eC (.str ("a" : Str))) (aC (eC (.str ("a" : Str))) aN))) (aC (eL (lDisp aN)) (aC (eL (lDisp (aC (eC (.str ("a" : Str))) aN))) (aC (eTup (aC (eC (.int 1)) aN)) (aC (eTup (aC (eTup aN) aN)) aN))))))))))))))) (sSeq (sExt 1 (eL (lDisp (aC (eTup (aC (eC (.str ("a" : Str))) (aC (eC (.int 1)) aN))) (aC (eTup (aC (eC (.str ("a" : Str))) (aC (eC (.bl true)) aN))) (aC (eTup (aC (eC (.str ("a" : Str))) (aC (eC (.int 0)) aN))) (aC (eC (.str ("a\n" : Str))) (aC (eC (.str ("a_b" : Str))) (aC (eC (.str ("a,b" : Str))) (aC (eTup (aC (eC (.str ("a" : Str))) (aC (eC .non) aN))) (aC (eTup (aC (eC (.str ("a" : Str))) (aC (eC (.str ("b" : Str))) (aC (eC (.str ("c" : Str))) aN)))) aN))))))))))) (sRet (eCall f__law_pick (aC (eV 0) (aC (eL (l2 gCatL (eP 1) (eL (lDisp (aC (eTup (aC (eTup (aC (eC (.str ("a" : Str))) (aC (eC (.str ("b" : Str))) aN))) aN)) (aC (eC (.str ("0" : Str))) (aC (eC (.str ("zzzzzzzz" : Str))) (aC (eTup (aC (eC (.str ("zzzzzzzz" : Str))) aN)) (aC (eL (lDisp (aC (eTup aN) aN))) aN))))))))) aN)))))))
def f__law_odd : FN := runDef 2 g__law_odd
theorem ok__law_odd {P : Program} {w : World} {K : PySem.W.Frag} {Θ : TL} {mg : Str → Option Value} {base : Heap} (h : HereD K mg "_law_odd" "_law_odd" s__law_odd ["_law_feed_here"]) (T : Txt K mg) (d__law_pick : Does P w K Θ mg base 2 "_law_pick" ["_law_feed_here", "_law_things"] f__law_pick) : Does P w K Θ mg base 3 "_law_odd" ["_law_feed_here"] f__law_odd :=
  dd_of h sc__law_odd fun fa cdv A outer s H E F0 α0 hr => ((j_seq (j_setL (ps_set (i := 1) sc__law_odd.nd rfl (Or.inl rfl) (j_disp (j_ac (j_c pe_non .non) (j_ac (j_c pe_bl (.bl true)) (j_ac (j_c pe_bl (.bl false)) (j_ac (j_c pe_int (.int 0)) (j_ac (j_c pe_int (.int 1)) (j_ac (j_un sp_neg (pe_un un_neg (vw (j_c pe_int (.int 1))))) (j_ac (j_c pe_int (.int 2)) (j_ac (j_op sp_I (pe_op op_pow (vw (j_c pe_int (.int 10))) (vw (j_c pe_int (.int 59))))) (j_ac (j_c pe_str (.str ("" : Str))) (j_ac (j_c pe_str (.str ("a" : Str))) (j_ac (j_c pe_str (.str ("b9" : Str))) (j_ac (j_c pe_str (.str ("9a" : Str))) (j_ac (j_c pe_str (.str ("A" : Str))) (j_ac (j_c pe_str (.str ("abcdefgh" : Str))) (j_ac (j_c pe_str (.str ("abcdefghi" : Str))) j_an)))))))))))))))))) (j_seq (j_ext (ps_expr (pe_bm PySem.F.plainAttrs_list PySem.F.slot_list_extend PySem.F.type_list_extend mt_extend (pv 1) (pa_cons (lw (j_disp (j_ac (j_c pe_str (.str ("a b" : Str))) (j_ac (j_c pe_str (.str ("-" : Str))) (j_ac (j_c pe_str (.str ("a-" : Str))) (j_ac (j_tup j_an) (j_ac (j_tup (j_ac (j_c pe_str (.str ("a" : Str))) j_an)) (j_ac (j_tup (j_ac (j_c pe_str (.str ("a" : Str))) (j_ac (j_c pe_str (.str ("b" : Str))) j_an))) (j_ac (j_tup (j_ac (j_c pe_str (.str ("b" : Str))) (j_ac (j_c pe_str (.str ("a" : Str))) j_an))) (j_ac (j_tup (j_ac (j_c pe_str (.str ("a" : Str))) (j_ac (j_c pe_str (.str ("a" : Str))) j_an))) (j_ac (lv (j_disp j_an)) (j_ac (lv (j_disp (j_ac (j_c pe_str (.str ("a" : Str))) j_an))) (j_ac (j_tup (j_ac (j_c pe_int (.int 1)) j_an)) (j_ac (j_tup (j_ac (j_tup j_an) j_an)) j_an)))))))))))))) pa_nil)))) (j_seq (j_ext (ps_expr (pe_bm PySem.F.plainAttrs_list PySem.F.slot_list_extend PySem.F.type_list_extend mt_extend (pv 1) (pa_cons (lw (j_disp (j_ac (j_tup (j_ac (j_c pe_str (.str ("a" : Str))) (j_ac (j_c pe_int (.int 1)) j_an))) (j_ac (j_tup (j_ac (j_c pe_str (.str ("a" : Str))) (j_ac (j_c pe_bl (.bl true)) j_an))) (j_ac (j_tup (j_ac (j_c pe_str (.str ("a" : Str))) (j_ac (j_c pe_int (.int 0)) j_an))) (j_ac (j_c pe_str (.str ("a\n" : Str))) (j_ac (j_c pe_str (.str ("a_b" : Str))) (j_ac (j_c pe_str (.str ("a,b" : Str))) (j_ac (j_tup (j_ac (j_c pe_str (.str ("a" : Str))) (j_ac (j_c pe_non .non) j_an))) (j_ac (j_tup (j_ac (j_c pe_str (.str ("a" : Str))) (j_ac (j_c pe_str (.str ("b" : Str))) (j_ac (j_c pe_str (.str ("c" : Str))) j_an)))) j_an)))))))))) pa_nil)))) (j_last (j_ret (j_callD d__law_pick hr (by decide) (by rfl) (j_ac (j_var 0 (pv 0)) (j_ac (lv (j_opL sp_catL (pe_op op_addJ (j_peek 1 (pv 1)) (lw (j_disp (j_ac (j_tup (j_ac (j_tup (j_ac (j_c pe_str (.str ("a" : Str))) (j_ac (j_c pe_str (.str ("b" : Str))) j_an))) j_an)) (j_ac (j_c pe_str (.str ("0" : Str))) (j_ac (j_c pe_str (.str ("zzzzzzzz" : Str))) (j_ac (j_tup (j_ac (j_c pe_str (.str ("zzzzzzzz" : Str))) j_an)) (j_ac (lv (j_disp (j_ac (j_tup j_an) j_an))) j_an)))))))))) j_an)) (fun ρ S ds S' z => len_2 z) rfl)))))) : PSs _ _ (tS _ _ _ F0 α0 H g__law_odd))
abbrev s__law_same : Stmt := top 46
abbrev N__law_same : List Str := ["_law_seen", "_law_due", "_law_k"]
theorem sc__law_same : FnScope N__law_same ["_law_seen", "_law_due"] (defScope s__law_same) := ⟨rfl, rfl, rfl, by decide +kernel, rfl, by decide +kernel, by decide +kernel⟩
def g__law_same (rec__law_same : FN) : GS := (sSeq (sIf (tTru (e1 (gIsi .tuple) (eP 1))) (sSeq (sIf (tOrJ (tNotJ (tTru (e1 (gIsi .tuple) (eP 0)))) (tOf (e2 (gEq true) (aG gLen (aC (eP 0) aN)) (aG gLen (aC (eP 1) aN))))) (sRet (eC (.bl false))) sNil) (sRet (e2 (gEq false) (eL (lComp [2] (iRg1 (aC (aG gLen (aC (eP 1) aN)) aN)) (bName 2) (tNotJ (tTru (eCall rec__law_same (aC (e2 gIx (eP 0) (eP 2)) (aC (e2 gIx (eP 1) (eP 2)) aN))))) (eV 2))) (eL (lDisp aN))))) sNil) (sSeq (sIf (tOf (e2 (gIs false) (eP 1) (eC .non))) (sRet (e2 (gIs false) (eP 0) (eC .non))) sNil) (sSeq (sIf (tOrJ (tOf (e2 (gEq true) (e1 (gIsi .str) (eP 0)) (e1 (gIsi .str) (eP 1)))) (tOf (e2 (gEq true) (e1 (gIsi .bool) (eP 0)) (e1 (gIsi .bool) (eP 1))))) (sRet (eC (.bl false))) sNil) (sRet (eAnd (e1 (gIsi2 .int .str) (eP 0)) (e2 (gEq false) (eP 0) (eP 1)))))))
def f__law_same : Nat → FN
  | 0 => runDef 3 gNone
  | k + 1 => runDef 3 (g__law_same (f__law_same k))
theorem ok__law_same {P : Program} {w : World} {K : PySem.W.Frag} {Θ : TL} {mg : Str → Option Value} {base : Heap} (h : HereD K mg "_law_same" "_law_same" s__law_same ["_law_seen", "_law_due"]) (T : Txt K mg) : ∀ n, Does P w K Θ mg base (1 + n) "_law_same" ["_law_seen", "_law_due"] (f__law_same n)
  | 0 => dd_zero h sc__law_same
  | n + 1 => have d__law_same := ok__law_same h T n
    dd_of (k := 1 + n) h sc__law_same fun fa cdv A outer s H E F0 α0 hr => ((j_seq (j_ifS (j_tru (vw (j_isi (T := .tuple) (pe_callB call_isi (by rfl) T.b_isinstance (by decide +kernel) (pa_cons (j_peek 1 (pv 1)) (pa_cons (pe_bltn (by rfl) T.b_tuple (by decide +kernel) rfl) pa_nil)))))) (j_seq (j_ifS (PW.pt (j_or (j_not (j_tru (vw (j_isi (T := .tuple) (pe_callB call_isi (by rfl) T.b_isinstance (by decide +kernel) (pa_cons (j_peek 0 (pv 0)) (pa_cons (pe_bltn (by rfl) T.b_tuple (by decide +kernel) rfl) pa_nil))))))) (j_or1 (j_cmpT sp_ne (pt_cmpR (op_neD hr.units) (vw (j_cb sp_len (pe_callB call_lenJ (by rfl) T.b_len PySem.boot_len (j_acW (j_peek 0 (pv 0)) j_anW)))) (vw (j_cb sp_len (pe_callB call_lenJ (by rfl) T.b_len PySem.boot_len (j_acW (j_peek 1 (pv 1)) j_anW)))) (nomark _)))))) (j_last (j_ret (j_c pe_bl (.bl false)))) j_nil) (j_last (j_ret (j_op sp_eq (pe_cmpR (op_eqD hr.units) (lw (j_comp (sg_name (i := 2) (vs := [2]) (by decide)) (pe_lc (own := [("_law_k", 2)]) (g := (gName 2)) (tt := tT _ _ (tNotJ (tTru (eCall (f__law_same n) (aC (e2 gIx (eP 0) (eP 2)) (aC (e2 gIx (eP 1) (eP 2)) aN)))))) (te := tV _ _ (eV 2)) (by rfl) sc__law_same.nd (j_iw (j_rg1 (pi_range1 (by rfl) T.b_range (j_acW (vw (j_cb sp_len (pe_callB call_lenJ (by rfl) T.b_len PySem.boot_len (j_acW (j_peek 1 (pv 1)) j_anW)))) j_anW)))) (blkOk_by (own := [("_law_k", 2)]) (N := N__law_same) (sc := (defScope s__law_same)) (by decide +kernel)) (fun _ _ _ _ _ => (pg_name (i := 2) sc__law_same.nd rfl (Or.inl rfl))) (fun _ _ _ _ _ => (pts_one (j_not (j_tru (vw (j_callD d__law_same hr (by omega) (by rfl) (j_ac (j_op sp_ix (pe_ix ix_seq (j_peek 0 (pv 0)) (j_peek 2 (pv 2)) (fun _ _ => rfl))) (j_ac (j_op sp_ix (pe_ix ix_seq (j_peek 1 (pv 1)) (j_peek 2 (pv 2)) (fun _ _ => rfl))) j_an)) (fun ρ S ds S' z => len_2 z) rfl)))))) (fun _ _ _ _ _ => (j_var 2 (pv 2)))))) (lw (j_disp j_an)) (nomark _)))))) j_nil) (j_seq (j_ifS (j_cmpT sp_is (pt_cmpR op_isN (j_peek 1 (pv 1)) (vw (j_c pe_non .non)) (nomark _))) (j_last (j_ret (j_op sp_is (pe_cmpR op_isN (j_peek 0 (pv 0)) (vw (j_c pe_non .non)) (nomark _))))) j_nil) (j_seq (j_ifS (PW.pt (j_or (j_cmpT sp_ne (pt_cmpR (op_neD hr.units) (vw (j_isi (T := .str) (pe_callB call_isi (by rfl) T.b_isinstance (by decide +kernel) (pa_cons (j_peek 0 (pv 0)) (pa_cons (pe_bltn (by rfl) T.b_str (by decide +kernel) rfl) pa_nil))))) (vw (j_isi (T := .str) (pe_callB call_isi (by rfl) T.b_isinstance (by decide +kernel) (pa_cons (j_peek 1 (pv 1)) (pa_cons (pe_bltn (by rfl) T.b_str (by decide +kernel) rfl) pa_nil))))) (nomark _))) (j_or1 (j_cmpT sp_ne (pt_cmpR (op_neD hr.units) (vw (j_isi (T := .bool) (pe_callB call_isi (by rfl) T.b_isinstance (by decide +kernel) (pa_cons (j_peek 0 (pv 0)) (pa_cons (pe_bltn (by rfl) T.b_bool (by decide +kernel) rfl) pa_nil))))) (vw (j_isi (T := .bool) (pe_callB call_isi (by rfl) T.b_isinstance (by decide +kernel) (pa_cons (j_peek 1 (pv 1)) (pa_cons (pe_bltn (by rfl) T.b_bool (by decide +kernel) rfl) pa_nil))))) (nomark _)))))) (j_last (j_ret (j_c pe_bl (.bl false)))) j_nil) (j_last (j_ret (j_andV (j_isi2 (T := .int) (U := .str) (pe_callB call_isiT (by rfl) T.b_isinstance (by decide +kernel) (pa_cons (j_peek 0 (pv 0)) (pa_cons (pe_tup (pa_cons (pe_bltn (by rfl) T.b_int (by decide +kernel) rfl) (pa_cons (pe_bltn (by rfl) T.b_str (by decide +kernel) rfl) pa_nil))) pa_nil)))) (j_one (j_op sp_eq (pe_cmpR (op_eqD hr.units) (j_peek 0 (pv 0)) (j_peek 1 (pv 1)) (nomark _)))))))))) : PSs _ _ (tS _ _ _ F0 α0 H (g__law_same (f__law_same n))))
abbrev s__law_files : Stmt := top 48
abbrev N__law_files : List Str := ["_law_whole", "_law_found", "_law_by", "_law_compiler", "_law_source", "_law_given", "_law_last"]
theorem sc__law_files : FnScope N__law_files ["_law_whole"] (defScope s__law_files) := ⟨rfl, rfl, rfl, by decide +kernel, rfl, by decide +kernel, by decide +kernel⟩
def g__law_files : GS := (sSeq (sSetL 1 (lDisp aN)) (sSeq (sFor (iOf (e2 gIx (eP 0) (eC (.int 3)))) (bTup 5 (bCons (bName 2) (bCons (bName 3) (bCons (bName 4) (bCons (bName 5) (bCons (bName 6) bNil)))))) (sExt 1 (eL (l2 gCatL (eL (l2 gCatL (eL (aGL gListL (aC (eP 5) aN))) (eL (lDisp (aC (eV 6) aN))))) (eIf (tOf (e2 (gIs true) (eP 3) (eC .non))) (eL (lDisp (aC (eV 3) aN))) (eL (lDisp aN))))))) (sRet (aG gTuple (aC (eL (lSortedSet (eP 1))) aN)))))
def f__law_files : FN := runDef 7 g__law_files
theorem ok__law_files {P : Program} {w : World} {K : PySem.W.Frag} {Θ : TL} {mg : Str → Option Value} {base : Heap} (h : HereD K mg "_law_files" "_law_files" s__law_files ["_law_whole"]) (T : Txt K mg) : Does P w K Θ mg base 1 "_law_files" ["_law_whole"] f__law_files :=
  dd_of h sc__law_files fun fa cdv A outer s H E F0 α0 hr => ((j_seq (j_setL (ps_set (i := 1) sc__law_files.nd rfl (Or.inl rfl) (j_disp j_an))) (j_seq (j_for (sg_tup (n := 5) (sg_cons (sg_name (i := 2) (vs := [2, 3, 4, 5, 6]) (by decide)) (sg_cons (sg_name (i := 3) (vs := [2, 3, 4, 5, 6]) (by decide)) (sg_cons (sg_name (i := 4) (vs := [2, 3, 4, 5, 6]) (by decide)) (sg_cons (sg_name (i := 5) (vs := [2, 3, 4, 5, 6]) (by decide)) (sg_cons (sg_name (i := 6) (vs := [2, 3, 4, 5, 6]) (by decide)) sg_nil)))))) (ps_for PassesOwn.never rfl (j_it (j_op sp_ix (pe_ix ix_seq (j_peek 0 (pv 0)) (vw (j_c pe_int (.int 3))) (fun _ _ => rfl)))) (pg_tup rfl (pgs_cons (pg_name (i := 2) sc__law_files.nd rfl (Or.inl rfl)) (pgs_cons (pg_name (i := 3) sc__law_files.nd rfl (Or.inl rfl)) (pgs_cons (pg_name (i := 4) sc__law_files.nd rfl (Or.inl rfl)) (pgs_cons (pg_name (i := 5) sc__law_files.nd rfl (Or.inl rfl)) (pgs_cons (pg_name (i := 6) sc__law_files.nd rfl (Or.inl rfl)) pgs_nil)))))) (j_last (j_ext (ps_expr (pe_bm PySem.F.plainAttrs_list PySem.F.slot_list_extend PySem.F.type_list_extend mt_extend (pv 1) (pa_cons (lw (j_opL sp_catL (pe_op op_addJ (lw (j_opL sp_catL (pe_op op_addJ (lw (j_cbL sp_listL (pe_callTy call_list_of (by rfl) T.b_list (by decide +kernel) (j_acW (j_peek 5 (pv 5)) j_anW)))) (lw (j_disp (j_ac (j_var 6 (pv 6)) j_an)))))) (vw (j_if (j_cmpT sp_isnt (pt_cmpR op_notN (j_peek 3 (pv 3)) (vw (j_c pe_non .non)) (nomark _))) (lv (j_disp (j_ac (j_var 3 (pv 3)) j_an))) (lv (j_disp j_an))))))) pa_nil))))))) (j_last (j_ret (j_cb sp_tuple (pe_callTy call_tuple_of (by rfl) T.b_tuple (by decide +kernel) (j_acW (lw (j_sortedSet rfl (by rfl) T.b_sorted (by rfl) T.b_set (j_peek 1 (pv 1)))) j_anW))))))) : PSs _ _ (tS _ _ _ F0 α0 H g__law_files))
abbrev s__law_weights : Stmt := top 49
abbrev N__law_weights : List Str := ["_law_feed_here", "_law_whole", "_law_folk", "_law_lap", "_law_some", "_law_things", "_law_thing", "_law_due", "_law_k", "_law_name", "_law_weight_here"]
theorem sc__law_weights : FnScope N__law_weights ["_law_feed_here", "_law_whole", "_law_folk"] (defScope s__law_weights) := ⟨rfl, rfl, rfl, by decide +kernel, rfl, by decide +kernel, by decide +kernel⟩
def g__law_weights : GS := (sSeq (sFor (iRg1 (aC (eC (.int 6)) aN)) (bName 3) (sSeq (sSet (aG gTuple (aC (eL (lSortedSet (eL (lComp [8] (iRg1 (aC (eIf (tOf (e2 (gEq true) (eP 2) (eL (lDisp aN)))) (eCall f__law_draw (aC (eV 0) (aC (eC (.int 6)) aN))) (eC (.int 0))) aN)) (bName 8) cYes (eCall f__law_pick (aC (eV 0) (aC (eV 2) aN))))))) aN)) (bName 4)) (sSeq (sSet (eL (lDisp (aC (eV 4) (aC (eRev (eP 4)) (aC (e2 gAdd (eP 4) (eSl (eP 4) oN (oS (eC (.int 1))))) (aC (eL (aGL gListL (aC (eP 4) aN))) (aC (e2 gAdd (eP 4) (eTup (aC (eC (.str ("zzzzzzzz" : Str))) aN))) (aC (eSl (eP 4) oN (oS (eC (.int 1)))) (aC (eCall f__law_odd (aC (eV 0) aN)) aN))))))))) (bName 5)) (sFor (iOf (eV 5)) (bName 6) (sSeq (sSet (eTup (aC (eC (.str ("NotUsable" : Str))) (aC (eC (.str ("parties" : Str))) (aC (e1 gNeg (eC (.int 1))) aN)))) (bName 7)) (sSeq (sIf (tAndJ (tTru (eCall f__law_is_set (aC (eV 6) aN))) (tOf (e2 (gEq false) (eL (lComp [9] (iOf (eP 6)) (bName 9) (tOf (e2 (gIn true) (eP 9) (eP 2))) (eV 9))) (eL (lDisp aN))))) (sSet (eTup (aC (eC (.str ("gave" : Str))) (aC (aG gSum (aC (eL (lComp [9, 10] (iOf (e2 gIx (eP 1) (eC (.int 1)))) (bTup 2 (bCons (bName 9) (bCons (bName 10) bNil))) (tOf (e2 (gIn false) (eP 9) (eP 6))) (eV 10))) aN)) aN))) (bName 7)) sNil) (sIf (tNotJ (tTru (eCall (f__law_same 12) (aC (eHeard ("NotUsable" : Str) ("gave" : Str) ("NotUsable" : Str) ("word" : Str) ("at" : Str) (eCallX f_weight_of (aC (eV 1) (aC (eV 6) aN)))) (aC (eV 7) aN))))) (sRet (eC (.bl false))) sNil))))))) (sRet (eC (.bl true))))
def f__law_weights : FN := runDef 11 g__law_weights
theorem ok__law_weights {P : Program} {w : World} {K : PySem.W.Frag} {Θ : TL} {mg : Str → Option Value} {base : Heap} (h : HereD K mg "_law_weights" "_law_weights" s__law_weights ["_law_feed_here", "_law_whole", "_law_folk"]) (hL : LamIn K base mg Θ "_law_weights" (lamQ "_law_weights")) (T : Txt K mg) (d__law_draw : Does P w K Θ mg base 1 "_law_draw" ["_law_feed_here", "_law_many"] f__law_draw) (d__law_pick : Does P w K Θ mg base 2 "_law_pick" ["_law_feed_here", "_law_things"] f__law_pick) (d__law_odd : Does P w K Θ mg base 3 "_law_odd" ["_law_feed_here"] f__law_odd) (d__law_is_set : Does P w K Θ mg base 3 "_law_is_set" ["_law_thing"] f__law_is_set) (d__law_same : Does P w K Θ mg base 13 "_law_same" ["_law_seen", "_law_due"] (f__law_same 12)) (d_weight_of : DoesX P w K Θ mg base 6 "weight_of" ["book", "parties"] f_weight_of) {g__law_heard CS_NotUsable : Addr} (G__law_heard : HeardD K mg "_law_heard" "_law_ask" s__law_heard g__law_heard) (E_NotUsable : HeardE K mg "NotUsable" "word" "at" CS_NotUsable) : Does P w K Θ mg base 14 "_law_weights" ["_law_feed_here", "_law_whole", "_law_folk"] f__law_weights :=
  dd_ofL h hL sc__law_weights fun fa cdv A outer s H E F0 α0 cc PP LV hr => ((j_seq (j_for (sg_name (i := 3) (vs := [3]) (by decide)) (ps_for PassesOwn.never rfl (j_rg1 (pi_range1 (by rfl) T.b_range (j_acW (vw (j_c pe_int (.int 6))) j_anW))) (pg_name (i := 3) sc__law_weights.nd rfl (Or.inl rfl)) (j_seq (j_asg (sg_name (i := 4) (vs := [4]) (by decide)) (ps_set (i := 4) sc__law_weights.nd rfl (Or.inl rfl) (j_cb sp_tuple (pe_callTy call_tuple_of (by rfl) T.b_tuple (by decide +kernel) (j_acW (lw (j_sortedSet rfl (by rfl) T.b_sorted (by rfl) T.b_set (lw (j_comp (sg_name (i := 8) (vs := [8]) (by decide)) (pe_lc (own := [("_law_k", 8)]) (g := (gName 8)) (tt := tT _ _ cYes) (te := tV _ _ (eCall f__law_pick (aC (eV 0) (aC (eV 2) aN)))) (by rfl) sc__law_weights.nd (j_iw (j_rg1 (pi_range1 (by rfl) T.b_range (j_acW (vw (j_if (j_cmpT sp_ne (pt_cmpR (op_neD hr.units) (j_peek 2 (pv 2)) (lw (j_disp j_an)) (nomark _))) (j_callD d__law_draw hr (by decide) (by rfl) (j_ac (j_var 0 (pv 0)) (j_ac (j_c pe_int (.int 6)) j_an)) (fun ρ S ds S' z => len_2 z) rfl) (j_c pe_int (.int 0)))) j_anW)))) (blkOk_by (own := [("_law_k", 8)]) (N := N__law_weights) (sc := (defScope s__law_weights)) (by decide +kernel)) (fun _ _ _ _ _ => (pg_name (i := 8) sc__law_weights.nd rfl (Or.inl rfl))) (fun _ _ _ _ _ => j_yes) (fun _ _ _ _ _ => (j_callD d__law_pick hr (by decide) (by rfl) (j_ac (j_var 0 (pv 0)) (j_ac (j_var 2 (pv 2)) j_an)) (fun ρ S ds S' z => len_2 z) rfl))))))) j_anW))))) (j_seq (j_asg (sg_name (i := 5) (vs := [5]) (by decide)) (j_setV (i := 0) (ps_set (i := 5) sc__law_weights.nd rfl (Or.inl rfl) (j_disp (j_ac (j_var 4 (pv 4)) (j_ac (j_revT (j_peek 4 (pv 4))) (j_ac (j_op sp_add (pe_op op_addJ (j_peek 4 (pv 4)) (vw (j_sl (j_peek 4 (pv 4)) j_oN (j_oS (j_c pe_int (.int 1))))))) (j_ac (lv (j_cbL sp_listL (pe_callTy call_list_of (by rfl) T.b_list (by decide +kernel) (j_acW (j_peek 4 (pv 4)) j_anW)))) (j_ac (j_op sp_add (pe_op op_addJ (j_peek 4 (pv 4)) (vw (j_tup (j_ac (j_c pe_str (.str ("zzzzzzzz" : Str))) j_an))))) (j_ac (j_sl (j_peek 4 (pv 4)) j_oN (j_oS (j_c pe_int (.int 1)))) (j_ac (j_callD d__law_odd hr (by decide) (by rfl) (j_ac (j_var 0 (pv 0)) j_an) (fun ρ S ds S' z => len_1 z) rfl) j_an))))))))))) (j_last (j_for (sg_name (i := 6) (vs := [6]) (by decide)) (ps_for PassesOwn.never rfl (j_it (j_var 5 (pv 5))) (pg_name (i := 6) sc__law_weights.nd rfl (Or.inr rfl)) (j_seq (j_asg (sg_name (i := 7) (vs := [7]) (by decide)) (ps_set (i := 7) sc__law_weights.nd rfl (Or.inl rfl) (j_tup (j_ac (j_c pe_str (.str ("NotUsable" : Str))) (j_ac (j_c pe_str (.str ("parties" : Str))) (j_ac (j_un sp_neg (pe_un un_neg (vw (j_c pe_int (.int 1))))) j_an)))))) (j_seq (j_ifS (PW.pt (j_and (j_tru (vw (j_callD d__law_is_set hr (by decide) (by rfl) (j_ac (j_var 6 (pv 6)) j_an) (fun ρ S ds S' z => len_1 z) rfl))) (j_and1 (j_cmpT sp_eq (pt_cmpR (op_eqD hr.units) (lw (j_comp (sg_name (i := 9) (vs := [9]) (by decide)) (pe_lc (own := [("_law_name", 9)]) (g := (gName 9)) (tt := tT _ _ (tOf (e2 (gIn true) (eP 9) (eP 2)))) (te := tV _ _ (eV 9)) (by rfl) sc__law_weights.nd (j_itW (j_peek 6 (pv 6))) (blkOk_by (own := [("_law_name", 9)]) (N := N__law_weights) (sc := (defScope s__law_weights)) (by decide +kernel)) (fun _ _ _ _ _ => (pg_name (i := 9) sc__law_weights.nd rfl (Or.inl rfl))) (fun _ _ _ _ _ => (pts_one (j_cmpT sp_in (pt_cmpR (op_notInJ (hu65 hr)) (j_peek 9 (pv 9)) (j_peek 2 (pv 2)) (by with_unfolding_all rfl))))) (fun _ _ _ _ _ => (j_var 9 (pv 9)))))) (lw (j_disp j_an)) (nomark _)))))) (j_last (j_asg (sg_name (i := 7) (vs := [7]) (by decide)) (ps_set (i := 7) sc__law_weights.nd rfl (Or.inl rfl) (j_tup (j_ac (j_c pe_str (.str ("gave" : Str))) (j_ac (j_cb sp_sum (pe_callB (cr_sum rfl) (by rfl) T.b_sum (by decide +kernel) (j_acW (lw (j_comp (sg_tup (n := 2) (sg_cons (sg_name (i := 9) (vs := [9, 10]) (by decide)) (sg_cons (sg_name (i := 10) (vs := [9, 10]) (by decide)) sg_nil))) (pe_lc (own := [("_law_name", 9), ("_law_weight_here", 10)]) (g := (gTup _ 2 (gCons (gName 9) (gCons (gName 10) gNil)))) (tt := tT _ _ (tOf (e2 (gIn false) (eP 9) (eP 6)))) (te := tV _ _ (eV 10)) (by rfl) sc__law_weights.nd (j_itW (vw (j_op sp_ix (pe_ix ix_seq (j_peek 1 (pv 1)) (vw (j_c pe_int (.int 1))) (fun _ _ => rfl))))) (blkOk_by (own := [("_law_name", 9), ("_law_weight_here", 10)]) (N := N__law_weights) (sc := (defScope s__law_weights)) (by decide +kernel)) (fun _ _ _ _ _ => (pg_tup rfl (pgs_cons (pg_name (i := 9) sc__law_weights.nd rfl (Or.inl rfl)) (pgs_cons (pg_name (i := 10) sc__law_weights.nd rfl (Or.inl rfl)) pgs_nil)))) (fun _ _ _ _ _ => (pts_one (j_cmpT sp_in (pt_cmpR (op_inJ (hu65 hr)) (j_peek 9 (pv 9)) (j_peek 6 (pv 6)) (by with_unfolding_all rfl))))) (fun _ _ _ _ _ => (j_var 10 (pv 10)))))) j_anW))) j_an)))))) j_nil) (j_last (j_ifS (j_not (j_tru (vw (j_callD d__law_same hr (by decide) (by rfl) (j_ac (jh__law_heard (k := 6) (fb := (eCallX f_weight_of (aC (eV 1) (aC (eV 6) aN)))) G__law_heard E_NotUsable LV hr (by decide) (lamS_by (sc := defScope s__law_weights) (by decide +kernel)) rfl (by exact fun _ _ _ _ _ => rfl) (by exact fun A outer s H E f c' hr => (j_callX d_weight_of (takes_of rfl rfl rfl rfl) hr (by decide) (by rfl) (j_ac (j_var 1 (pv 1)) (j_ac (j_var 6 (pv 6)) j_an)) (fun ρ S ds S' z => len_2 z) rfl)) (by rfl)) (j_ac (j_var 7 (pv 7)) j_an)) (fun ρ S ds S' z => len_2 z) rfl)))) (j_last (j_ret (j_c pe_bl (.bl false)))) j_nil))))))))))) (j_last (j_ret (j_c pe_bl (.bl true))))) : PSs _ _ (tS _ _ _ F0 α0 H g__law_weights))
abbrev s__law_indexes : Stmt := top 50
abbrev N__law_indexes : List Str := ["_law_whole", "_law_part", "_law_thing", "_law_k", "_law_row"]
theorem sc__law_indexes : FnScope N__law_indexes ["_law_whole", "_law_part", "_law_thing"] (defScope s__law_indexes) := ⟨rfl, rfl, rfl, by decide +kernel, rfl, by decide +kernel, by decide +kernel⟩
def g__law_indexes : GS := (sRet (eTup (aC (eC (.str ("gave" : Str))) (aC (aG gTuple (aC (eL (lComp [3, 4] (iEnA (aC (e2 gIx (eP 0) (eC (.int 3))) aN)) (bTup 2 (bCons (bName 3) (bCons (bName 4) bNil))) (tOf (e2 (gEq false) (e2 gIx (eP 4) (eP 1)) (eP 2))) (eV 3))) aN)) aN))))
def f__law_indexes : FN := runDef 5 g__law_indexes
theorem ok__law_indexes {P : Program} {w : World} {K : PySem.W.Frag} {Θ : TL} {mg : Str → Option Value} {base : Heap} (h : HereD K mg "_law_indexes" "_law_indexes" s__law_indexes ["_law_whole", "_law_part", "_law_thing"]) (T : Txt K mg) : Does P w K Θ mg base 1 "_law_indexes" ["_law_whole", "_law_part", "_law_thing"] f__law_indexes :=
  dd_of h sc__law_indexes fun fa cdv A outer s H E F0 α0 hr => ((j_last (j_ret (j_tup (j_ac (j_c pe_str (.str ("gave" : Str))) (j_ac (j_cb sp_tuple (pe_callTy call_tuple_of (by rfl) T.b_tuple (by decide +kernel) (j_acW (lw (j_comp (sg_tup (n := 2) (sg_cons (sg_name (i := 3) (vs := [3, 4]) (by decide)) (sg_cons (sg_name (i := 4) (vs := [3, 4]) (by decide)) sg_nil))) (pe_lc (own := [("_law_k", 3), ("_law_row", 4)]) (g := (gTup _ 2 (gCons (gName 3) (gCons (gName 4) gNil)))) (tt := tT _ _ (tOf (e2 (gEq false) (e2 gIx (eP 4) (eP 1)) (eP 2)))) (te := tV _ _ (eV 3)) (by rfl) sc__law_indexes.nd (j_iw (j_enA (pi_or (pi_enum (by rfl) T.b_enumerate (j_ac (j_op sp_ix (pe_ix ix_seq (j_peek 0 (pv 0)) (vw (j_c pe_int (.int 3))) (fun _ _ => rfl))) j_an)) (pi_enumT (by rfl) T.b_enumerate (j_ac (j_op sp_ix (pe_ix ix_seq (j_peek 0 (pv 0)) (vw (j_c pe_int (.int 3))) (fun _ _ => rfl))) j_an))))) (blkOk_by (own := [("_law_k", 3), ("_law_row", 4)]) (N := N__law_indexes) (sc := (defScope s__law_indexes)) (by decide +kernel)) (fun _ _ _ _ _ => (pg_tup rfl (pgs_cons (pg_name (i := 3) sc__law_indexes.nd rfl (Or.inl rfl)) (pgs_cons (pg_name (i := 4) sc__law_indexes.nd rfl (Or.inl rfl)) pgs_nil)))) (fun _ _ _ _ _ => (pts_one (j_cmpT sp_eq (pt_cmpR (op_eqD hr.units) (vw (j_op sp_ix (pe_ix ix_seq (j_peek 4 (pv 4)) (j_peek 1 (pv 1)) (fun _ _ => rfl)))) (j_peek 2 (pv 2)) (nomark _))))) (fun _ _ _ _ _ => (j_var 3 (pv 3)))))) j_anW))) j_an))))) : PSs _ _ (tS _ _ _ F0 α0 H g__law_indexes))
abbrev s__law_by_right : Stmt := top 51
abbrev N__law_by_right : List Str := ["_law_whole", "_law_thing", "_law_due", "_law_name", "_law_source", "_law_weight_here"]
theorem sc__law_by_right : FnScope N__law_by_right ["_law_whole", "_law_thing"] (defScope s__law_by_right) := ⟨rfl, rfl, rfl, by decide +kernel, rfl, by decide +kernel, by decide +kernel⟩
def g__law_by_right : GS := (sSeq (sSet (eTup (aC (eC (.str ("NotUsable" : Str))) (aC (eC (.str ("party" : Str))) (aC (e1 gNeg (eC (.int 1))) aN)))) (bName 2)) (sSeq (sIf (tAndJ (tOf (e2 (gIn false) (eP 1) (eL (lComp [3, 5] (iOf (e2 gIx (eP 0) (eC (.int 1)))) (bTup 2 (bCons (bName 3) (bCons (bName 5) bNil))) cYes (eV 3))))) (tTru (e1 (gIsi .str) (eP 1)))) (sSet (eCall f__law_indexes (aC (eV 0) (aC (eC (.int 0)) (aC (eV 1) aN)))) (bName 2)) sNil) (sSeq (sIf (tNotJ (tTru (eCall (f__law_same 12) (aC (eHeard ("NotUsable" : Str) ("gave" : Str) ("NotUsable" : Str) ("word" : Str) ("at" : Str) (eCallX f_builds_by (aC (eV 0) (aC (eV 1) aN)))) (aC (eV 2) aN))))) (sRet (eC (.bl false))) sNil) (sSeq (sSet (eTup (aC (eC (.str ("NotUsable" : Str))) (aC (eC (.str ("source" : Str))) (aC (e1 gNeg (eC (.int 1))) aN)))) (bName 2)) (sSeq (sIf (tAndJ (tOf (e2 (gIn false) (eP 1) (eL (lComp [4] (iOf (e2 gIx (eP 0) (eC (.int 0)))) (bName 4) cYes (e2 gIx (eP 4) (eC (.int 0))))))) (tTru (e1 (gIsi .str) (eP 1)))) (sSet (eTup (aC (eC (.str ("gave" : Str))) (aC (eCall f__law_below (aC (e2 gIx (eP 0) (eC (.int 0))) (aC (eV 1) aN))) aN))) (bName 2)) sNil) (sRet (eCall (f__law_same 12) (aC (eHeard ("NotUsable" : Str) ("gave" : Str) ("NotUsable" : Str) ("word" : Str) ("at" : Str) (eCallX f_uses_below (aC (eV 0) (aC (eV 1) aN)))) (aC (eV 2) aN)))))))))
def f__law_by_right : FN := runDef 6 g__law_by_right
theorem ok__law_by_right {P : Program} {w : World} {K : PySem.W.Frag} {Θ : TL} {mg : Str → Option Value} {base : Heap} (h : HereD K mg "_law_by_right" "_law_by_right" s__law_by_right ["_law_whole", "_law_thing"]) (hL : LamIn K base mg Θ "_law_by_right" (lamQ "_law_by_right")) (T : Txt K mg) (d__law_indexes : Does P w K Θ mg base 1 "_law_indexes" ["_law_whole", "_law_part", "_law_thing"] f__law_indexes) (d__law_same : Does P w K Θ mg base 13 "_law_same" ["_law_seen", "_law_due"] (f__law_same 12)) (d_builds_by : DoesX P w K Θ mg base 4 "builds_by" ["book", "party"] f_builds_by) (d__law_below : Does P w K Θ mg base 1 "_law_below" ["_law_firsts", "_law_name"] f__law_below) (d_uses_below : DoesX P w K Θ mg base 4 "uses_below" ["book", "source"] f_uses_below) {g__law_heard CS_NotUsable : Addr} (G__law_heard : HeardD K mg "_law_heard" "_law_ask" s__law_heard g__law_heard) (E_NotUsable : HeardE K mg "NotUsable" "word" "at" CS_NotUsable) : Does P w K Θ mg base 14 "_law_by_right" ["_law_whole", "_law_thing"] f__law_by_right :=
  dd_ofL h hL sc__law_by_right fun fa cdv A outer s H E F0 α0 cc PP LV hr => ((j_seq (j_asg (sg_name (i := 2) (vs := [2]) (by decide)) (ps_set (i := 2) sc__law_by_right.nd rfl (Or.inl rfl) (j_tup (j_ac (j_c pe_str (.str ("NotUsable" : Str))) (j_ac (j_c pe_str (.str ("party" : Str))) (j_ac (j_un sp_neg (pe_un un_neg (vw (j_c pe_int (.int 1))))) j_an)))))) (j_seq (j_ifS (PW.pt (j_and (j_cmpT sp_in (pt_cmpR (op_inJ (hu65 hr)) (j_peek 1 (pv 1)) (lw (j_comp (sg_tup (n := 2) (sg_cons (sg_name (i := 3) (vs := [3, 5]) (by decide)) (sg_cons (sg_name (i := 5) (vs := [3, 5]) (by decide)) sg_nil))) (pe_lc (own := [("_law_name", 3), ("_law_weight_here", 5)]) (g := (gTup _ 2 (gCons (gName 3) (gCons (gName 5) gNil)))) (tt := tT _ _ cYes) (te := tV _ _ (eV 3)) (by rfl) sc__law_by_right.nd (j_itW (vw (j_op sp_ix (pe_ix ix_seq (j_peek 0 (pv 0)) (vw (j_c pe_int (.int 1))) (fun _ _ => rfl))))) (blkOk_by (own := [("_law_name", 3), ("_law_weight_here", 5)]) (N := N__law_by_right) (sc := (defScope s__law_by_right)) (by decide +kernel)) (fun _ _ _ _ _ => (pg_tup rfl (pgs_cons (pg_name (i := 3) sc__law_by_right.nd rfl (Or.inl rfl)) (pgs_cons (pg_name (i := 5) sc__law_by_right.nd rfl (Or.inl rfl)) pgs_nil)))) (fun _ _ _ _ _ => j_yes) (fun _ _ _ _ _ => (j_var 3 (pv 3)))))) (by with_unfolding_all rfl))) (j_and1 (j_tru (vw (j_isi (T := .str) (pe_callB call_isi (by rfl) T.b_isinstance (by decide +kernel) (pa_cons (j_peek 1 (pv 1)) (pa_cons (pe_bltn (by rfl) T.b_str (by decide +kernel) rfl) pa_nil))))))))) (j_last (j_asg (sg_name (i := 2) (vs := [2]) (by decide)) (ps_set (i := 2) sc__law_by_right.nd rfl (Or.inl rfl) (j_callD d__law_indexes hr (by decide) (by rfl) (j_ac (j_var 0 (pv 0)) (j_ac (j_c pe_int (.int 0)) (j_ac (j_var 1 (pv 1)) j_an))) (fun ρ S ds S' z => len_3 z) rfl)))) j_nil) (j_seq (j_ifS (j_not (j_tru (vw (j_callD d__law_same hr (by decide) (by rfl) (j_ac (jh__law_heard (k := 4) (fb := (eCallX f_builds_by (aC (eV 0) (aC (eV 1) aN)))) G__law_heard E_NotUsable LV hr (by decide) (lamS_by (sc := defScope s__law_by_right) (by decide +kernel)) rfl (by exact fun _ _ _ _ _ => rfl) (by exact fun A outer s H E f c' hr => (j_callX d_builds_by (takes_of rfl rfl rfl rfl) hr (by decide) (by rfl) (j_ac (j_var 0 (pv 0)) (j_ac (j_var 1 (pv 1)) j_an)) (fun ρ S ds S' z => len_2 z) rfl)) (by rfl)) (j_ac (j_var 2 (pv 2)) j_an)) (fun ρ S ds S' z => len_2 z) rfl)))) (j_last (j_ret (j_c pe_bl (.bl false)))) j_nil) (j_seq (j_asg (sg_name (i := 2) (vs := [2]) (by decide)) (ps_set (i := 2) sc__law_by_right.nd rfl (Or.inl rfl) (j_tup (j_ac (j_c pe_str (.str ("NotUsable" : Str))) (j_ac (j_c pe_str (.str ("source" : Str))) (j_ac (j_un sp_neg (pe_un un_neg (vw (j_c pe_int (.int 1))))) j_an)))))) (j_seq (j_ifS (PW.pt (j_and (j_cmpT sp_in (pt_cmpR (op_inJ (hu65 hr)) (j_peek 1 (pv 1)) (lw (j_comp (sg_name (i := 4) (vs := [4]) (by decide)) (pe_lc (own := [("_law_source", 4)]) (g := (gName 4)) (tt := tT _ _ cYes) (te := tV _ _ (e2 gIx (eP 4) (eC (.int 0)))) (by rfl) sc__law_by_right.nd (j_itW (vw (j_op sp_ix (pe_ix ix_seq (j_peek 0 (pv 0)) (vw (j_c pe_int (.int 0))) (fun _ _ => rfl))))) (blkOk_by (own := [("_law_source", 4)]) (N := N__law_by_right) (sc := (defScope s__law_by_right)) (by decide +kernel)) (fun _ _ _ _ _ => (pg_name (i := 4) sc__law_by_right.nd rfl (Or.inl rfl))) (fun _ _ _ _ _ => j_yes) (fun _ _ _ _ _ => (j_op sp_ix (pe_ix ix_seq (j_peek 4 (pv 4)) (vw (j_c pe_int (.int 0))) (fun _ _ => rfl))))))) (by with_unfolding_all rfl))) (j_and1 (j_tru (vw (j_isi (T := .str) (pe_callB call_isi (by rfl) T.b_isinstance (by decide +kernel) (pa_cons (j_peek 1 (pv 1)) (pa_cons (pe_bltn (by rfl) T.b_str (by decide +kernel) rfl) pa_nil))))))))) (j_last (j_asg (sg_name (i := 2) (vs := [2]) (by decide)) (ps_set (i := 2) sc__law_by_right.nd rfl (Or.inl rfl) (j_tup (j_ac (j_c pe_str (.str ("gave" : Str))) (j_ac (j_callD d__law_below hr (by decide) (by rfl) (j_ac (j_op sp_ix (pe_ix ix_seq (j_peek 0 (pv 0)) (vw (j_c pe_int (.int 0))) (fun _ _ => rfl))) (j_ac (j_var 1 (pv 1)) j_an)) (fun ρ S ds S' z => len_2 z) rfl) j_an)))))) j_nil) (j_last (j_ret (j_callD d__law_same hr (by decide) (by rfl) (j_ac (jh__law_heard (k := 4) (fb := (eCallX f_uses_below (aC (eV 0) (aC (eV 1) aN)))) G__law_heard E_NotUsable LV hr (by decide) (lamS_by (sc := defScope s__law_by_right) (by decide +kernel)) rfl (by exact fun _ _ _ _ _ => rfl) (by exact fun A outer s H E f c' hr => (j_callX d_uses_below (takes_of rfl rfl rfl rfl) hr (by decide) (by rfl) (j_ac (j_var 0 (pv 0)) (j_ac (j_var 1 (pv 1)) j_an)) (fun ρ S ds S' z => len_2 z) rfl)) (by rfl)) (j_ac (j_var 2 (pv 2)) j_an)) (fun ρ S ds S' z => len_2 z) rfl)))))))) : PSs _ _ (tS _ _ _ F0 α0 H g__law_by_right))
abbrev s__law_name_right : Stmt := top 52
abbrev N__law_name_right : List Str := ["_law_whole", "_law_thing", "_law_due", "_law_source"]
theorem sc__law_name_right : FnScope N__law_name_right ["_law_whole", "_law_thing"] (defScope s__law_name_right) := ⟨rfl, rfl, rfl, by decide +kernel, rfl, by decide +kernel, by decide +kernel⟩
def g__law_name_right : GS := (sSeq (sSet (eTup (aC (eC (.str ("NotUsable" : Str))) (aC (eC (.str ("file" : Str))) (aC (e1 gNeg (eC (.int 1))) aN)))) (bName 2)) (sSeq (sIf (tTru (eCall f__law_is_name (aC (eV 1) aN))) (sSet (eCall f__law_indexes (aC (eV 0) (aC (eC (.int 4)) (aC (eV 1) aN)))) (bName 2)) sNil) (sSeq (sIf (tNotJ (tTru (eCall (f__law_same 12) (aC (eHeard ("NotUsable" : Str) ("gave" : Str) ("NotUsable" : Str) ("word" : Str) ("at" : Str) (eCallX f_builds_of (aC (eV 0) (aC (eV 1) aN)))) (aC (eV 2) aN))))) (sRet (eC (.bl false))) sNil) (sSeq (sSet (eTup (aC (eC (.str ("NotUsable" : Str))) (aC (eC (.str ("language" : Str))) (aC (e1 gNeg (eC (.int 1))) aN)))) (bName 2)) (sSeq (sIf (tTru (eCall f__law_is_name (aC (eV 1) aN))) (sSet (eTup (aC (eC (.str ("gave" : Str))) (aC (aG gTuple (aC (eL (lComp [3] (iOf (e2 gIx (eP 0) (eC (.int 0)))) (bName 3) (tOf (e2 (gIn false) (eP 1) (e2 gIx (eP 3) (eC (.int 2))))) (e2 gIx (eP 3) (eC (.int 0))))) aN)) aN))) (bName 2)) sNil) (sRet (eCall (f__law_same 12) (aC (eHeard ("NotUsable" : Str) ("gave" : Str) ("NotUsable" : Str) ("word" : Str) ("at" : Str) (eCallX f_compiling (aC (eV 0) (aC (eV 1) aN)))) (aC (eV 2) aN)))))))))
def f__law_name_right : FN := runDef 4 g__law_name_right
theorem ok__law_name_right {P : Program} {w : World} {K : PySem.W.Frag} {Θ : TL} {mg : Str → Option Value} {base : Heap} (h : HereD K mg "_law_name_right" "_law_name_right" s__law_name_right ["_law_whole", "_law_thing"]) (hL : LamIn K base mg Θ "_law_name_right" (lamQ "_law_name_right")) (T : Txt K mg) (d__law_is_name : Does P w K Θ mg base 1 "_law_is_name" ["_law_thing"] f__law_is_name) (d__law_indexes : Does P w K Θ mg base 1 "_law_indexes" ["_law_whole", "_law_part", "_law_thing"] f__law_indexes) (d__law_same : Does P w K Θ mg base 13 "_law_same" ["_law_seen", "_law_due"] (f__law_same 12)) (d_builds_of : DoesX P w K Θ mg base 4 "builds_of" ["book", "file"] f_builds_of) (d_compiling : DoesX P w K Θ mg base 4 "compiling" ["book", "language"] f_compiling) {g__law_heard CS_NotUsable : Addr} (G__law_heard : HeardD K mg "_law_heard" "_law_ask" s__law_heard g__law_heard) (E_NotUsable : HeardE K mg "NotUsable" "word" "at" CS_NotUsable) : Does P w K Θ mg base 14 "_law_name_right" ["_law_whole", "_law_thing"] f__law_name_right :=
  dd_ofL h hL sc__law_name_right fun fa cdv A outer s H E F0 α0 cc PP LV hr => ((j_seq (j_asg (sg_name (i := 2) (vs := [2]) (by decide)) (ps_set (i := 2) sc__law_name_right.nd rfl (Or.inl rfl) (j_tup (j_ac (j_c pe_str (.str ("NotUsable" : Str))) (j_ac (j_c pe_str (.str ("file" : Str))) (j_ac (j_un sp_neg (pe_un un_neg (vw (j_c pe_int (.int 1))))) j_an)))))) (j_seq (j_ifS (j_tru (vw (j_callD d__law_is_name hr (by decide) (by rfl) (j_ac (j_var 1 (pv 1)) j_an) (fun ρ S ds S' z => len_1 z) rfl))) (j_last (j_asg (sg_name (i := 2) (vs := [2]) (by decide)) (ps_set (i := 2) sc__law_name_right.nd rfl (Or.inl rfl) (j_callD d__law_indexes hr (by decide) (by rfl) (j_ac (j_var 0 (pv 0)) (j_ac (j_c pe_int (.int 4)) (j_ac (j_var 1 (pv 1)) j_an))) (fun ρ S ds S' z => len_3 z) rfl)))) j_nil) (j_seq (j_ifS (j_not (j_tru (vw (j_callD d__law_same hr (by decide) (by rfl) (j_ac (jh__law_heard (k := 4) (fb := (eCallX f_builds_of (aC (eV 0) (aC (eV 1) aN)))) G__law_heard E_NotUsable LV hr (by decide) (lamS_by (sc := defScope s__law_name_right) (by decide +kernel)) rfl (by exact fun _ _ _ _ _ => rfl) (by exact fun A outer s H E f c' hr => (j_callX d_builds_of (takes_of rfl rfl rfl rfl) hr (by decide) (by rfl) (j_ac (j_var 0 (pv 0)) (j_ac (j_var 1 (pv 1)) j_an)) (fun ρ S ds S' z => len_2 z) rfl)) (by rfl)) (j_ac (j_var 2 (pv 2)) j_an)) (fun ρ S ds S' z => len_2 z) rfl)))) (j_last (j_ret (j_c pe_bl (.bl false)))) j_nil) (j_seq (j_asg (sg_name (i := 2) (vs := [2]) (by decide)) (ps_set (i := 2) sc__law_name_right.nd rfl (Or.inl rfl) (j_tup (j_ac (j_c pe_str (.str ("NotUsable" : Str))) (j_ac (j_c pe_str (.str ("language" : Str))) (j_ac (j_un sp_neg (pe_un un_neg (vw (j_c pe_int (.int 1))))) j_an)))))) (j_seq (j_ifS (j_tru (vw (j_callD d__law_is_name hr (by decide) (by rfl) (j_ac (j_var 1 (pv 1)) j_an) (fun ρ S ds S' z => len_1 z) rfl))) (j_last (j_asg (sg_name (i := 2) (vs := [2]) (by decide)) (ps_set (i := 2) sc__law_name_right.nd rfl (Or.inl rfl) (j_tup (j_ac (j_c pe_str (.str ("gave" : Str))) (j_ac (j_cb sp_tuple (pe_callTy call_tuple_of (by rfl) T.b_tuple (by decide +kernel) (j_acW (lw (j_comp (sg_name (i := 3) (vs := [3]) (by decide)) (pe_lc (own := [("_law_source", 3)]) (g := (gName 3)) (tt := tT _ _ (tOf (e2 (gIn false) (eP 1) (e2 gIx (eP 3) (eC (.int 2)))))) (te := tV _ _ (e2 gIx (eP 3) (eC (.int 0)))) (by rfl) sc__law_name_right.nd (j_itW (vw (j_op sp_ix (pe_ix ix_seq (j_peek 0 (pv 0)) (vw (j_c pe_int (.int 0))) (fun _ _ => rfl))))) (blkOk_by (own := [("_law_source", 3)]) (N := N__law_name_right) (sc := (defScope s__law_name_right)) (by decide +kernel)) (fun _ _ _ _ _ => (pg_name (i := 3) sc__law_name_right.nd rfl (Or.inl rfl))) (fun _ _ _ _ _ => (pts_one (j_cmpT sp_in (pt_cmpR (op_inJ (hu65 hr)) (j_peek 1 (pv 1)) (vw (j_op sp_ix (pe_ix ix_seq (j_peek 3 (pv 3)) (vw (j_c pe_int (.int 2))) (fun _ _ => rfl)))) (by with_unfolding_all rfl))))) (fun _ _ _ _ _ => (j_op sp_ix (pe_ix ix_seq (j_peek 3 (pv 3)) (vw (j_c pe_int (.int 0))) (fun _ _ => rfl))))))) j_anW))) j_an)))))) j_nil) (j_last (j_ret (j_callD d__law_same hr (by decide) (by rfl) (j_ac (jh__law_heard (k := 4) (fb := (eCallX f_compiling (aC (eV 0) (aC (eV 1) aN)))) G__law_heard E_NotUsable LV hr (by decide) (lamS_by (sc := defScope s__law_name_right) (by decide +kernel)) rfl (by exact fun _ _ _ _ _ => rfl) (by exact fun A outer s H E f c' hr => (j_callX d_compiling (takes_of rfl rfl rfl rfl) hr (by decide) (by rfl) (j_ac (j_var 0 (pv 0)) (j_ac (j_var 1 (pv 1)) j_an)) (fun ρ S ds S' z => len_2 z) rfl)) (by rfl)) (j_ac (j_var 2 (pv 2)) j_an)) (fun ρ S ds S' z => len_2 z) rfl)))))))) : PSs _ _ (tS _ _ _ F0 α0 H g__law_name_right))
abbrev s_law : Stmt := top 53
abbrev N_law : List Str := ["_law_script", "_law_feed_here", "_law_whole", "_law_folk", "_law_things", "_law_source", "_law_thing", "_law_lap", "_law_name", "_law_weight_here"]
theorem sc_law : FnScope N_law ["_law_script"] (defScope s_law) := ⟨rfl, rfl, rfl, by decide +kernel, rfl, by decide +kernel, by decide +kernel⟩
def g_law : GS := (sSeq (sSet (eCall f__law_feed (aC (eV 0) aN)) (bName 1)) (sSeq (sSet (eCall f__law_book (aC (eV 1) aN)) (bName 2)) (sSeq (sSet (eL (lComp [8, 9] (iOf (e2 gIx (eP 2) (eC (.int 1)))) (bTup 2 (bCons (bName 8) (bCons (bName 9) bNil))) cYes (eV 8))) (bName 3)) (sSeq (sIf (tNotJ (tTru (eCall (f__law_same 12) (aC (eCall f_files_of (aC (eV 2) aN)) (aC (eCall f__law_files (aC (eV 2) aN)) aN))))) (sRet (eC (.bl false))) sNil) (sSeq (sSetL 4 (l2 gCatL (eL (l2 gCatL (eP 3) (eL (aGL gListL (aC (eCall f__law_files (aC (eV 2) aN)) aN))))) (eL (lComp [5] (iOf (e2 gIx (eP 2) (eC (.int 0)))) (bName 5) cYes (e2 gIx (eP 5) (eC (.int 0))))))) (sSeq (sFor (iOf (e2 gIx (eP 2) (eC (.int 0)))) (bName 5) (sExt 4 (eL (l2 gCatL (eL (lDisp (aC (e2 gIx (eP 5) (eC (.int 1))) aN))) (eL (aGL gListL (aC (e2 gIx (eP 5) (eC (.int 2))) aN))))))) (sSeq (sExt 4 (eL (l2 gCatL (eL (lComp [7] (iRg1 (aC (eC (.int 8)) aN)) (bName 7) cYes (eCall f__law_odd (aC (eV 1) aN)))) (eL (lDisp (aC (eC (.str ("zzzzzzzz" : Str))) (aC (eC .non) (aC (eV 2) (aC (aG gTuple (aC (eP 3) aN)) aN))))))))) (sFreeze 4 (sSeq (sFor (iOf (eV 4)) (bName 6) (sIf (tOrJ (tNotJ (tTru (eCall f__law_by_right (aC (eV 2) (aC (eV 6) aN))))) (tNotJ (tTru (eCall f__law_name_right (aC (eV 2) (aC (eV 6) aN)))))) (sRet (eC (.bl false))) sNil)) (sRet (eCall f__law_weights (aC (eV 1) (aC (eV 2) (aC (eV 3) aN))))))))))))))
def f_law : FN := runDef 10 g_law
theorem fn_law {P : Program} {w : World} {K : PySem.W.Frag} {Θ : TL} {mg : Str → Option Value} {base : Heap} {f : Addr} {fd : FuncData} (Fn : FunD K "law" "law" (defArgs s_law) (defBody s_law) (defScope s_law) [] [] f fd) (T : Txt K mg) (d__law_feed : Does P w K Θ mg base 1 "_law_feed" ["_law_script"] f__law_feed) (d__law_book : Does P w K Θ mg base 4 "_law_book" ["_law_feed_here"] f__law_book) (d__law_same : Does P w K Θ mg base 13 "_law_same" ["_law_seen", "_law_due"] (f__law_same 12)) (d__law_files : Does P w K Θ mg base 1 "_law_files" ["_law_whole"] f__law_files) (d_files_of : Does P w K Θ mg base 3 "files_of" ["book"] f_files_of) (d__law_odd : Does P w K Θ mg base 3 "_law_odd" ["_law_feed_here"] f__law_odd) (d__law_by_right : Does P w K Θ mg base 14 "_law_by_right" ["_law_whole", "_law_thing"] f__law_by_right) (d__law_name_right : Does P w K Θ mg base 14 "_law_name_right" ["_law_whole", "_law_thing"] f__law_name_right) (d__law_weights : Does P w K Θ mg base 14 "_law_weights" ["_law_feed_here", "_law_whole", "_law_folk"] f__law_weights) : FnOk P w K mg base CX0 15 f fd ["_law_script"] (spF K Θ f_law 1) :=
  fd_of Fn sc_law fun cdv A outer s H E F0 α0 hr => ((j_seq (j_asg (sg_name (i := 1) (vs := [1]) (by decide)) (ps_set (i := 1) sc_law.nd rfl (Or.inr rfl) (j_callD d__law_feed hr (by decide) (by rfl) (j_ac (j_var 0 (pv 0)) j_an) (fun ρ S ds S' z => len_1 z) rfl))) (j_seq (j_asg (sg_name (i := 2) (vs := [2]) (by decide)) (ps_set (i := 2) sc_law.nd rfl (Or.inl rfl) (j_callD d__law_book hr (by decide) (by rfl) (j_ac (j_var 1 (pv 1)) j_an) (fun ρ S ds S' z => len_1 z) rfl))) (j_seq (j_asg (sg_name (i := 3) (vs := [3]) (by decide)) (j_setV (i := 0) (j_setC (sg_tup (n := 2) (sg_cons (sg_name (i := 8) (vs := [8, 9]) (by decide)) (sg_cons (sg_name (i := 9) (vs := [8, 9]) (by decide)) sg_nil))) (ps_setLc (i := 3) (own := [("_law_name", 8), ("_law_weight_here", 9)]) (g := (gTup _ 2 (gCons (gName 8) (gCons (gName 9) gNil)))) (tt := tT _ _ cYes) (te := tV _ _ (eV 8)) (by rfl) sc_law.nd rfl rfl (sw_true rfl rfl rfl (by decide +kernel)) (j_itW (vw (j_op sp_ix (pe_ix ix_seq (j_peek 2 (pv 2)) (vw (j_c pe_int (.int 1))) (fun _ _ => rfl))))) (blkOk_by (own := [("_law_name", 8), ("_law_weight_here", 9)]) (N := N_law) (sc := (defScope s_law)) (by decide +kernel)) (fun _ _ _ _ _ => (pg_tup rfl (pgs_cons (pg_name (i := 8) sc_law.nd rfl (Or.inl rfl)) (pgs_cons (pg_name (i := 9) sc_law.nd rfl (Or.inl rfl)) pgs_nil)))) (fun _ _ _ _ _ => j_yes) (fun _ _ _ _ _ => (j_var 8 (pv 8))))))) (j_seq (j_ifS (j_not (j_tru (vw (j_callD d__law_same hr (by decide) (by rfl) (j_ac (j_callD d_files_of hr (by decide) (by rfl) (j_ac (j_var 2 (pv 2)) j_an) (fun ρ S ds S' z => len_1 z) rfl) (j_ac (j_callD d__law_files hr (by decide) (by rfl) (j_ac (j_var 2 (pv 2)) j_an) (fun ρ S ds S' z => len_1 z) rfl) j_an)) (fun ρ S ds S' z => len_2 z) rfl)))) (j_last (j_ret (j_c pe_bl (.bl false)))) j_nil) (j_seq (j_setL (ps_set (i := 4) sc_law.nd rfl (Or.inl rfl) (j_opL sp_catL (pe_op op_addJ (lw (j_opL sp_catL (pe_op op_addJ (j_peek 3 (pv 3)) (lw (j_cbL sp_listL (pe_callTy call_list_of (by rfl) T.b_list (by decide +kernel) (j_acW (vw (j_callD d__law_files hr (by decide) (by rfl) (j_ac (j_var 2 (pv 2)) j_an) (fun ρ S ds S' z => len_1 z) rfl)) j_anW))))))) (lw (j_comp (sg_name (i := 5) (vs := [5]) (by decide)) (pe_lc (own := [("_law_source", 5)]) (g := (gName 5)) (tt := tT _ _ cYes) (te := tV _ _ (e2 gIx (eP 5) (eC (.int 0)))) (by rfl) sc_law.nd (j_itW (vw (j_op sp_ix (pe_ix ix_seq (j_peek 2 (pv 2)) (vw (j_c pe_int (.int 0))) (fun _ _ => rfl))))) (blkOk_by (own := [("_law_source", 5)]) (N := N_law) (sc := (defScope s_law)) (by decide +kernel)) (fun _ _ _ _ _ => (pg_name (i := 5) sc_law.nd rfl (Or.inl rfl))) (fun _ _ _ _ _ => j_yes) (fun _ _ _ _ _ => (j_op sp_ix (pe_ix ix_seq (j_peek 5 (pv 5)) (vw (j_c pe_int (.int 0))) (fun _ _ => rfl))))))))))) (j_seq (j_for (sg_name (i := 5) (vs := [5]) (by decide)) (ps_for PassesOwn.never rfl (j_it (j_op sp_ix (pe_ix ix_seq (j_peek 2 (pv 2)) (vw (j_c pe_int (.int 0))) (fun _ _ => rfl)))) (pg_name (i := 5) sc_law.nd rfl (Or.inl rfl)) (j_last (j_ext (ps_expr (pe_bm PySem.F.plainAttrs_list PySem.F.slot_list_extend PySem.F.type_list_extend mt_extend (pv 4) (pa_cons (lw (j_opL sp_catL (pe_op op_addJ (lw (j_disp (j_ac (j_op sp_ix (pe_ix ix_seq (j_peek 5 (pv 5)) (vw (j_c pe_int (.int 1))) (fun _ _ => rfl))) j_an))) (lw (j_cbL sp_listL (pe_callTy call_list_of (by rfl) T.b_list (by decide +kernel) (j_acW (vw (j_op sp_ix (pe_ix ix_seq (j_peek 5 (pv 5)) (vw (j_c pe_int (.int 2))) (fun _ _ => rfl)))) j_anW))))))) pa_nil))))))) (j_seq (j_ext (ps_expr (pe_bm PySem.F.plainAttrs_list PySem.F.slot_list_extend PySem.F.type_list_extend mt_extend (pv 4) (pa_cons (lw (j_opL sp_catL (pe_op op_addJ (lw (j_comp (sg_name (i := 7) (vs := [7]) (by decide)) (pe_lc (own := [("_law_lap", 7)]) (g := (gName 7)) (tt := tT _ _ cYes) (te := tV _ _ (eCall f__law_odd (aC (eV 1) aN))) (by rfl) sc_law.nd (j_iw (j_rg1 (pi_range1 (by rfl) T.b_range (j_acW (vw (j_c pe_int (.int 8))) j_anW)))) (blkOk_by (own := [("_law_lap", 7)]) (N := N_law) (sc := (defScope s_law)) (by decide +kernel)) (fun _ _ _ _ _ => (pg_name (i := 7) sc_law.nd rfl (Or.inl rfl))) (fun _ _ _ _ _ => j_yes) (fun _ _ _ _ _ => (j_callD d__law_odd hr (by decide) (by rfl) (j_ac (j_var 1 (pv 1)) j_an) (fun ρ S ds S' z => len_1 z) rfl))))) (lw (j_disp (j_ac (j_c pe_str (.str ("zzzzzzzz" : Str))) (j_ac (j_c pe_non .non) (j_ac (j_var 2 (pv 2)) (j_ac (j_cb sp_tuple (pe_callTy call_tuple_of (by rfl) T.b_tuple (by decide +kernel) (j_acW (j_peek 3 (pv 3)) j_anW))) j_an))))))))) pa_nil)))) (j_freeze 4 (j_seq (j_for (sg_name (i := 6) (vs := [6]) (by decide)) (ps_for PassesOwn.never rfl (j_it (j_var 4 (pv 4))) (pg_name (i := 6) sc_law.nd rfl (Or.inl rfl)) (j_last (j_ifS (PW.pt (j_or (j_not (j_tru (vw (j_callD d__law_by_right hr (by decide) (by rfl) (j_ac (j_var 2 (pv 2)) (j_ac (j_var 6 (pv 6)) j_an)) (fun ρ S ds S' z => len_2 z) rfl)))) (j_or1 (j_not (j_tru (vw (j_callD d__law_name_right hr (by decide) (by rfl) (j_ac (j_var 2 (pv 2)) (j_ac (j_var 6 (pv 6)) j_an)) (fun ρ S ds S' z => len_2 z) rfl))))))) (j_last (j_ret (j_c pe_bl (.bl false)))) j_nil)))) (j_last (j_ret (j_callD d__law_weights hr (by decide) (by rfl) (j_ac (j_var 1 (pv 1)) (j_ac (j_var 2 (pv 2)) (j_ac (j_var 3 (pv 3)) j_an))) (fun ρ S ds S' z => len_3 z) rfl)))))))))))) : PSs _ _ (tS _ _ _ F0 α0 H g_law))
def i_NotUsable : Stmt := match top 3 with | .ClassDef _ _ _ b _ _ _ _ _ _ _ => b.getD 0 (.Pass ⟨0, 0, 0, 0⟩) | _ => .Pass ⟨0, 0, 0, 0⟩
theorem own_NotUsable {P : Program} {w : World} {K : PySem.W.Frag} {mg : Str → Option Value} {base : Heap} {h : Heap} {fd : FuncData} (X : K.In h) (G : h.Ns mainGlobals mg) (T : ErrK K "NotUsable" "word" "at") (Fn : FunD K "__init__" "NotUsable.__init__" (defArgs i_NotUsable) (defBody i_NotUsable) (defScope i_NotUsable) [] [] (He.ma K (He.ga K "NotUsable") "__init__") fd) : OwnE P w K mg base "NotUsable" "word" "at" :=
  T.own X G Fn ⟨rfl, rfl, rfl, by decide +kernel, rfl, by decide +kernel, by decide +kernel⟩ (fun _ _ _ _ _ _ us hl => match us, hl with | [_, _, _], _ => rfl) fun cdv A outer s H E => pss_cons (ps_ost (pv 0) (pv 1)) (pss_one (ps_ost (pv 0) (pv 2)))
def D_is_name : He.DefD := ⟨("is_name", none), "is_name", "is_name", defArgs s_is_name, defBody s_is_name, defScope s_is_name, [], []⟩
def D_is_names : He.DefD := ⟨("is_names", none), "is_names", "is_names", defArgs s_is_names, defBody s_is_names, defScope s_is_names, [], []⟩
def D_is_rising : He.DefD := ⟨("is_rising", none), "is_rising", "is_rising", defArgs s_is_rising, defBody s_is_rising, defScope s_is_rising, [], []⟩
def D_is_set : He.DefD := ⟨("is_set", none), "is_set", "is_set", defArgs s_is_set, defBody s_is_set, defScope s_is_set, [], []⟩
def D_merged : He.DefD := ⟨("merged", none), "merged", "merged", defArgs s_merged, defBody s_merged, defScope s_merged, [], []⟩
def D_ascending : He.DefD := ⟨("ascending", none), "ascending", "ascending", defArgs s_ascending, defBody s_ascending, defScope s_ascending, [], []⟩
def D_reached : He.DefD := ⟨("reached", none), "reached", "reached", defArgs s_reached, defBody s_reached, defScope s_reached, [], []⟩
def D_names_of : He.DefD := ⟨("names_of", none), "names_of", "names_of", defArgs s_names_of, defBody s_names_of, defScope s_names_of, [], []⟩
def D_has_source : He.DefD := ⟨("has_source", none), "has_source", "has_source", defArgs s_has_source, defBody s_has_source, defScope s_has_source, [], []⟩
def D_has_party : He.DefD := ⟨("has_party", none), "has_party", "has_party", defArgs s_has_party, defBody s_has_party, defScope s_has_party, [], []⟩
def D_need_name : He.DefD := ⟨("need_name", none), "need_name", "need_name", defArgs s_need_name, defBody s_need_name, defScope s_need_name, [], []⟩
def D_need_source : He.DefD := ⟨("need_source", none), "need_source", "need_source", defArgs s_need_source, defBody s_need_source, defScope s_need_source, [], []⟩
def D_need_party : He.DefD := ⟨("need_party", none), "need_party", "need_party", defArgs s_need_party, defBody s_need_party, defScope s_need_party, [], []⟩
def D_is_parties : He.DefD := ⟨("is_parties", none), "is_parties", "is_parties", defArgs s_is_parties, defBody s_is_parties, defScope s_is_parties, [], []⟩
def D_need_parties : He.DefD := ⟨("need_parties", none), "need_parties", "need_parties", defArgs s_need_parties, defBody s_need_parties, defScope s_need_parties, [], []⟩
def D_files_in : He.DefD := ⟨("files_in", none), "files_in", "files_in", defArgs s_files_in, defBody s_files_in, defScope s_files_in, [], []⟩
def D_files_of : He.DefD := ⟨("files_of", none), "files_of", "files_of", defArgs s_files_of, defBody s_files_of, defScope s_files_of, [], []⟩
def D_weight_of : He.DefD := ⟨("weight_of", none), "weight_of", "weight_of", defArgs s_weight_of, defBody s_weight_of, defScope s_weight_of, [], []⟩
def D_builds_by : He.DefD := ⟨("builds_by", none), "builds_by", "builds_by", defArgs s_builds_by, defBody s_builds_by, defScope s_builds_by, [], []⟩
def D_builds_of : He.DefD := ⟨("builds_of", none), "builds_of", "builds_of", defArgs s_builds_of, defBody s_builds_of, defScope s_builds_of, [], []⟩
def D_compiling : He.DefD := ⟨("compiling", none), "compiling", "compiling", defArgs s_compiling, defBody s_compiling, defScope s_compiling, [], []⟩
def D_uses_below : He.DefD := ⟨("uses_below", none), "uses_below", "uses_below", defArgs s_uses_below, defBody s_uses_below, defScope s_uses_below, [], []⟩
def D__law_feed : He.DefD := ⟨("_law_feed", none), "_law_feed", "_law_feed", defArgs s__law_feed, defBody s__law_feed, defScope s__law_feed, [], []⟩
def D__law_draw : He.DefD := ⟨("_law_draw", none), "_law_draw", "_law_draw", defArgs s__law_draw, defBody s__law_draw, defScope s__law_draw, [], []⟩
def D__law_pick : He.DefD := ⟨("_law_pick", none), "_law_pick", "_law_pick", defArgs s__law_pick, defBody s__law_pick, defScope s__law_pick, [], []⟩
def D__law_names : He.DefD := ⟨("_law_names", none), "_law_names", "_law_names", defArgs s__law_names, defBody s__law_names, defScope s__law_names, [], []⟩
def D__law_sources : He.DefD := ⟨("_law_sources", none), "_law_sources", "_law_sources", defArgs s__law_sources, defBody s__law_sources, defScope s__law_sources, [], []⟩
def D__law_weight : He.DefD := ⟨("_law_weight", none), "_law_weight", "_law_weight", defArgs s__law_weight, defBody s__law_weight, defScope s__law_weight, [], []⟩
def D__law_build : He.DefD := ⟨("_law_build", none), "_law_build", "_law_build", defArgs s__law_build, defBody s__law_build, defScope s__law_build, [], []⟩
def D__law_book : He.DefD := ⟨("_law_book", none), "_law_book", "_law_book", defArgs s__law_book, defBody s__law_book, defScope s__law_book, [], []⟩
def D__law_is_name : He.DefD := ⟨("_law_is_name", none), "_law_is_name", "_law_is_name", defArgs s__law_is_name, defBody s__law_is_name, defScope s__law_is_name, [], []⟩
def D__law_are_names : He.DefD := ⟨("_law_are_names", none), "_law_are_names", "_law_are_names", defArgs s__law_are_names, defBody s__law_are_names, defScope s__law_are_names, [], []⟩
def D__law_is_set : He.DefD := ⟨("_law_is_set", none), "_law_is_set", "_law_is_set", defArgs s__law_is_set, defBody s__law_is_set, defScope s__law_is_set, [], []⟩
def D__law_below : He.DefD := ⟨("_law_below", none), "_law_below", "_law_below", defArgs s__law_below, defBody s__law_below, defScope s__law_below, [], []⟩
def D__law_odd : He.DefD := ⟨("_law_odd", none), "_law_odd", "_law_odd", defArgs s__law_odd, defBody s__law_odd, defScope s__law_odd, [], []⟩
def D__law_same : He.DefD := ⟨("_law_same", none), "_law_same", "_law_same", defArgs s__law_same, defBody s__law_same, defScope s__law_same, [], []⟩
def D__law_files : He.DefD := ⟨("_law_files", none), "_law_files", "_law_files", defArgs s__law_files, defBody s__law_files, defScope s__law_files, [], []⟩
def D__law_weights : He.DefD := ⟨("_law_weights", none), "_law_weights", "_law_weights", defArgs s__law_weights, defBody s__law_weights, defScope s__law_weights, [], []⟩
def D__law_indexes : He.DefD := ⟨("_law_indexes", none), "_law_indexes", "_law_indexes", defArgs s__law_indexes, defBody s__law_indexes, defScope s__law_indexes, [], []⟩
def D__law_by_right : He.DefD := ⟨("_law_by_right", none), "_law_by_right", "_law_by_right", defArgs s__law_by_right, defBody s__law_by_right, defScope s__law_by_right, [], []⟩
def D__law_name_right : He.DefD := ⟨("_law_name_right", none), "_law_name_right", "_law_name_right", defArgs s__law_name_right, defBody s__law_name_right, defScope s__law_name_right, [], []⟩
def D_law : He.DefD := ⟨("law", none), "law", "law", defArgs s_law, defBody s_law, defScope s_law, [], []⟩
def D__law_heard : He.DefD := ⟨("_law_heard", none), "_law_heard", "_law_heard", defArgs s__law_heard, defBody s__law_heard, defScope s__law_heard, [], []⟩
def D_NotUsable : He.DefD := ⟨("NotUsable", some "__init__"), "__init__", "NotUsable.__init__", defArgs i_NotUsable, defBody i_NotUsable, defScope i_NotUsable, [], []⟩
def fn : List He.DefD := [D_is_name, D_is_names, D_is_rising, D_is_set, D_merged, D_ascending, D_reached, D_names_of, D_has_source, D_has_party, D_need_name, D_need_source, D_need_party, D_is_parties, D_need_parties, D_files_in, D_files_of, D_weight_of, D_builds_by, D_builds_of, D_compiling, D_uses_below, D__law_feed, D__law_draw, D__law_pick, D__law_names, D__law_sources, D__law_weight, D__law_build, D__law_book, D__law_is_name, D__law_are_names, D__law_is_set, D__law_below, D__law_odd, D__law_same, D__law_files, D__law_weights, D__law_indexes, D__law_by_right, D__law_name_right, D_law, D__law_heard, D_NotUsable]
def fa : List He.Fa := [.glo "is_name", .glo "is_names", .glo "is_rising", .glo "is_set", .glo "merged", .glo "ascending", .glo "reached", .glo "names_of", .glo "has_source", .glo "has_party", .glo "need_name", .glo "need_source", .glo "need_party", .glo "is_parties", .glo "need_parties", .glo "files_in", .glo "files_of", .glo "weight_of", .glo "builds_by", .glo "builds_of", .glo "compiling", .glo "uses_below", .glo "_law_feed", .glo "_law_draw", .glo "_law_pick", .glo "_law_names", .glo "_law_sources", .glo "_law_weight", .glo "_law_build", .glo "_law_book", .glo "_law_is_name", .glo "_law_are_names", .glo "_law_is_set", .glo "_law_below", .glo "_law_odd", .glo "_law_same", .glo "_law_files", .glo "_law_weights", .glo "_law_indexes", .glo "_law_by_right", .glo "_law_name_right", .glo "law", .glo "_law_heard", .free "all", .free "bool", .free "enumerate", .free "int", .free "isinstance", .free "len", .free "list", .free "range", .free "set", .free "sorted", .free "str", .free "sum", .free "tuple", .str "FIRST_SIGNS" ("abcdefghijklmnopqrstuvwxyz" : Str), .str "SIGNS" ("abcdefghijklmnopqrstuvwxyz0123456789" : Str), .int "LONGEST_NAME" 8]
def lams : List Str := ["_law_weights", "_law_by_right", "_law_name_right"]
def ex (K : PySem.W.Frag) : Bool := errB "NotUsable" "word" "at" K && (tabsNd lams K)
abbrev R : PySem.W.OpenRow := PySem.W.OpenLaw.row PySem.Challenge.rw_rebuiltby_k04_parts
abbrev hk : PySem.W.Hook := He.hookX 7 fa fn [] (lams.map fun x => (x, none)) ex
def ob (s : PySem.W.SharedT) : He.AlX := He.obsX 7 fa fn [] (lams.map fun x => (x, none)) ex (HandSHeadRun.getT s)
theorem ob_eq (s : PySem.W.SharedT) : ob s = hk.obs s.abs := He.obsX_eq (HandSHeadRun.getT_eq s)
theorem facts {l : PySem.W.OpenLaw} {w : World} {K : PySem.W.Frag} {h : Heap} {mg : Str → Option Value} (true_ : ∀ ns : List Int, ns.length ≤ 63 → ∃ S', f_law [.frz (ns.map D.int)] [] = some (.bl true, S')) (X : K.In h) (G : h.Ns mainGlobals mg) (cc : He.SaysX fa fn [] (lams.map fun x => (x, none)) ex w h K) : LawAtS l w K CX0 15 63 "_law_script" mg (He.ga K "law") h := by
  have c : He.SaysD fa fn K := congrArg (fun z : He.AlT => z.1) cc.t
  have T : Txt K mg := ⟨He.free_ok X G (c.fact 43 (f := .free "all") rfl), He.free_ok X G (c.fact 44 (f := .free "bool") rfl), He.free_ok X G (c.fact 45 (f := .free "enumerate") rfl), He.free_ok X G (c.fact 46 (f := .free "int") rfl), He.free_ok X G (c.fact 47 (f := .free "isinstance") rfl), He.free_ok X G (c.fact 48 (f := .free "len") rfl), He.free_ok X G (c.fact 49 (f := .free "list") rfl), He.free_ok X G (c.fact 50 (f := .free "range") rfl), He.free_ok X G (c.fact 51 (f := .free "set") rfl), He.free_ok X G (c.fact 52 (f := .free "sorted") rfl), He.free_ok X G (c.fact 53 (f := .free "str") rfl), He.free_ok X G (c.fact 54 (f := .free "sum") rfl), He.free_ok X G (c.fact 55 (f := .free "tuple") rfl), He.str_ok X G (c.fact 56 rfl), He.str_ok X G (c.fact 57 rfl), He.int_ok X G (c.fact 58 rfl)⟩
  have hx := cc.more
  obtain ⟨e_NotUsable, hx⟩ := He.ba hx
  have K_NotUsable := errB_ok e_NotUsable
  have nd : tabsNd lams K = true := hx
  obtain ⟨fd_is_name, Z_is_name⟩ := c.def_ 0 (d := D_is_name) rfl
  have F_is_name : FunD K "is_name" "is_name" (defArgs s_is_name) (defBody s_is_name) (defScope s_is_name) [] [] (He.ga K "is_name") fd_is_name := Z_is_name
  obtain ⟨fd_is_names, Z_is_names⟩ := c.def_ 1 (d := D_is_names) rfl
  have F_is_names : FunD K "is_names" "is_names" (defArgs s_is_names) (defBody s_is_names) (defScope s_is_names) [] [] (He.ga K "is_names") fd_is_names := Z_is_names
  obtain ⟨fd_is_rising, Z_is_rising⟩ := c.def_ 2 (d := D_is_rising) rfl
  have F_is_rising : FunD K "is_rising" "is_rising" (defArgs s_is_rising) (defBody s_is_rising) (defScope s_is_rising) [] [] (He.ga K "is_rising") fd_is_rising := Z_is_rising
  obtain ⟨fd_is_set, Z_is_set⟩ := c.def_ 3 (d := D_is_set) rfl
  have F_is_set : FunD K "is_set" "is_set" (defArgs s_is_set) (defBody s_is_set) (defScope s_is_set) [] [] (He.ga K "is_set") fd_is_set := Z_is_set
  obtain ⟨fd_merged, Z_merged⟩ := c.def_ 4 (d := D_merged) rfl
  have F_merged : FunD K "merged" "merged" (defArgs s_merged) (defBody s_merged) (defScope s_merged) [] [] (He.ga K "merged") fd_merged := Z_merged
  obtain ⟨fd_ascending, Z_ascending⟩ := c.def_ 5 (d := D_ascending) rfl
  have F_ascending : FunD K "ascending" "ascending" (defArgs s_ascending) (defBody s_ascending) (defScope s_ascending) [] [] (He.ga K "ascending") fd_ascending := Z_ascending
  obtain ⟨fd_reached, Z_reached⟩ := c.def_ 6 (d := D_reached) rfl
  have F_reached : FunD K "reached" "reached" (defArgs s_reached) (defBody s_reached) (defScope s_reached) [] [] (He.ga K "reached") fd_reached := Z_reached
  obtain ⟨fd_names_of, Z_names_of⟩ := c.def_ 7 (d := D_names_of) rfl
  have F_names_of : FunD K "names_of" "names_of" (defArgs s_names_of) (defBody s_names_of) (defScope s_names_of) [] [] (He.ga K "names_of") fd_names_of := Z_names_of
  obtain ⟨fd_has_source, Z_has_source⟩ := c.def_ 8 (d := D_has_source) rfl
  have F_has_source : FunD K "has_source" "has_source" (defArgs s_has_source) (defBody s_has_source) (defScope s_has_source) [] [] (He.ga K "has_source") fd_has_source := Z_has_source
  obtain ⟨fd_has_party, Z_has_party⟩ := c.def_ 9 (d := D_has_party) rfl
  have F_has_party : FunD K "has_party" "has_party" (defArgs s_has_party) (defBody s_has_party) (defScope s_has_party) [] [] (He.ga K "has_party") fd_has_party := Z_has_party
  obtain ⟨fd_need_name, Z_need_name⟩ := c.def_ 10 (d := D_need_name) rfl
  have F_need_name : FunD K "need_name" "need_name" (defArgs s_need_name) (defBody s_need_name) (defScope s_need_name) [] [] (He.ga K "need_name") fd_need_name := Z_need_name
  obtain ⟨fd_need_source, Z_need_source⟩ := c.def_ 11 (d := D_need_source) rfl
  have F_need_source : FunD K "need_source" "need_source" (defArgs s_need_source) (defBody s_need_source) (defScope s_need_source) [] [] (He.ga K "need_source") fd_need_source := Z_need_source
  obtain ⟨fd_need_party, Z_need_party⟩ := c.def_ 12 (d := D_need_party) rfl
  have F_need_party : FunD K "need_party" "need_party" (defArgs s_need_party) (defBody s_need_party) (defScope s_need_party) [] [] (He.ga K "need_party") fd_need_party := Z_need_party
  obtain ⟨fd_is_parties, Z_is_parties⟩ := c.def_ 13 (d := D_is_parties) rfl
  have F_is_parties : FunD K "is_parties" "is_parties" (defArgs s_is_parties) (defBody s_is_parties) (defScope s_is_parties) [] [] (He.ga K "is_parties") fd_is_parties := Z_is_parties
  obtain ⟨fd_need_parties, Z_need_parties⟩ := c.def_ 14 (d := D_need_parties) rfl
  have F_need_parties : FunD K "need_parties" "need_parties" (defArgs s_need_parties) (defBody s_need_parties) (defScope s_need_parties) [] [] (He.ga K "need_parties") fd_need_parties := Z_need_parties
  obtain ⟨fd_files_in, Z_files_in⟩ := c.def_ 15 (d := D_files_in) rfl
  have F_files_in : FunD K "files_in" "files_in" (defArgs s_files_in) (defBody s_files_in) (defScope s_files_in) [] [] (He.ga K "files_in") fd_files_in := Z_files_in
  obtain ⟨fd_files_of, Z_files_of⟩ := c.def_ 16 (d := D_files_of) rfl
  have F_files_of : FunD K "files_of" "files_of" (defArgs s_files_of) (defBody s_files_of) (defScope s_files_of) [] [] (He.ga K "files_of") fd_files_of := Z_files_of
  obtain ⟨fd_weight_of, Z_weight_of⟩ := c.def_ 17 (d := D_weight_of) rfl
  have F_weight_of : FunD K "weight_of" "weight_of" (defArgs s_weight_of) (defBody s_weight_of) (defScope s_weight_of) [] [] (He.ga K "weight_of") fd_weight_of := Z_weight_of
  obtain ⟨fd_builds_by, Z_builds_by⟩ := c.def_ 18 (d := D_builds_by) rfl
  have F_builds_by : FunD K "builds_by" "builds_by" (defArgs s_builds_by) (defBody s_builds_by) (defScope s_builds_by) [] [] (He.ga K "builds_by") fd_builds_by := Z_builds_by
  obtain ⟨fd_builds_of, Z_builds_of⟩ := c.def_ 19 (d := D_builds_of) rfl
  have F_builds_of : FunD K "builds_of" "builds_of" (defArgs s_builds_of) (defBody s_builds_of) (defScope s_builds_of) [] [] (He.ga K "builds_of") fd_builds_of := Z_builds_of
  obtain ⟨fd_compiling, Z_compiling⟩ := c.def_ 20 (d := D_compiling) rfl
  have F_compiling : FunD K "compiling" "compiling" (defArgs s_compiling) (defBody s_compiling) (defScope s_compiling) [] [] (He.ga K "compiling") fd_compiling := Z_compiling
  obtain ⟨fd_uses_below, Z_uses_below⟩ := c.def_ 21 (d := D_uses_below) rfl
  have F_uses_below : FunD K "uses_below" "uses_below" (defArgs s_uses_below) (defBody s_uses_below) (defScope s_uses_below) [] [] (He.ga K "uses_below") fd_uses_below := Z_uses_below
  obtain ⟨fd__law_feed, Z__law_feed⟩ := c.def_ 22 (d := D__law_feed) rfl
  have F__law_feed : FunD K "_law_feed" "_law_feed" (defArgs s__law_feed) (defBody s__law_feed) (defScope s__law_feed) [] [] (He.ga K "_law_feed") fd__law_feed := Z__law_feed
  obtain ⟨fd__law_draw, Z__law_draw⟩ := c.def_ 23 (d := D__law_draw) rfl
  have F__law_draw : FunD K "_law_draw" "_law_draw" (defArgs s__law_draw) (defBody s__law_draw) (defScope s__law_draw) [] [] (He.ga K "_law_draw") fd__law_draw := Z__law_draw
  obtain ⟨fd__law_pick, Z__law_pick⟩ := c.def_ 24 (d := D__law_pick) rfl
  have F__law_pick : FunD K "_law_pick" "_law_pick" (defArgs s__law_pick) (defBody s__law_pick) (defScope s__law_pick) [] [] (He.ga K "_law_pick") fd__law_pick := Z__law_pick
  obtain ⟨fd__law_names, Z__law_names⟩ := c.def_ 25 (d := D__law_names) rfl
  have F__law_names : FunD K "_law_names" "_law_names" (defArgs s__law_names) (defBody s__law_names) (defScope s__law_names) [] [] (He.ga K "_law_names") fd__law_names := Z__law_names
  obtain ⟨fd__law_sources, Z__law_sources⟩ := c.def_ 26 (d := D__law_sources) rfl
  have F__law_sources : FunD K "_law_sources" "_law_sources" (defArgs s__law_sources) (defBody s__law_sources) (defScope s__law_sources) [] [] (He.ga K "_law_sources") fd__law_sources := Z__law_sources
  obtain ⟨fd__law_weight, Z__law_weight⟩ := c.def_ 27 (d := D__law_weight) rfl
  have F__law_weight : FunD K "_law_weight" "_law_weight" (defArgs s__law_weight) (defBody s__law_weight) (defScope s__law_weight) [] [] (He.ga K "_law_weight") fd__law_weight := Z__law_weight
  obtain ⟨fd__law_build, Z__law_build⟩ := c.def_ 28 (d := D__law_build) rfl
  have F__law_build : FunD K "_law_build" "_law_build" (defArgs s__law_build) (defBody s__law_build) (defScope s__law_build) [] [] (He.ga K "_law_build") fd__law_build := Z__law_build
  obtain ⟨fd__law_book, Z__law_book⟩ := c.def_ 29 (d := D__law_book) rfl
  have F__law_book : FunD K "_law_book" "_law_book" (defArgs s__law_book) (defBody s__law_book) (defScope s__law_book) [] [] (He.ga K "_law_book") fd__law_book := Z__law_book
  obtain ⟨fd__law_is_name, Z__law_is_name⟩ := c.def_ 30 (d := D__law_is_name) rfl
  have F__law_is_name : FunD K "_law_is_name" "_law_is_name" (defArgs s__law_is_name) (defBody s__law_is_name) (defScope s__law_is_name) [] [] (He.ga K "_law_is_name") fd__law_is_name := Z__law_is_name
  obtain ⟨fd__law_are_names, Z__law_are_names⟩ := c.def_ 31 (d := D__law_are_names) rfl
  have F__law_are_names : FunD K "_law_are_names" "_law_are_names" (defArgs s__law_are_names) (defBody s__law_are_names) (defScope s__law_are_names) [] [] (He.ga K "_law_are_names") fd__law_are_names := Z__law_are_names
  obtain ⟨fd__law_is_set, Z__law_is_set⟩ := c.def_ 32 (d := D__law_is_set) rfl
  have F__law_is_set : FunD K "_law_is_set" "_law_is_set" (defArgs s__law_is_set) (defBody s__law_is_set) (defScope s__law_is_set) [] [] (He.ga K "_law_is_set") fd__law_is_set := Z__law_is_set
  obtain ⟨fd__law_below, Z__law_below⟩ := c.def_ 33 (d := D__law_below) rfl
  have F__law_below : FunD K "_law_below" "_law_below" (defArgs s__law_below) (defBody s__law_below) (defScope s__law_below) [] [] (He.ga K "_law_below") fd__law_below := Z__law_below
  obtain ⟨fd__law_odd, Z__law_odd⟩ := c.def_ 34 (d := D__law_odd) rfl
  have F__law_odd : FunD K "_law_odd" "_law_odd" (defArgs s__law_odd) (defBody s__law_odd) (defScope s__law_odd) [] [] (He.ga K "_law_odd") fd__law_odd := Z__law_odd
  obtain ⟨fd__law_same, Z__law_same⟩ := c.def_ 35 (d := D__law_same) rfl
  have F__law_same : FunD K "_law_same" "_law_same" (defArgs s__law_same) (defBody s__law_same) (defScope s__law_same) [] [] (He.ga K "_law_same") fd__law_same := Z__law_same
  obtain ⟨fd__law_files, Z__law_files⟩ := c.def_ 36 (d := D__law_files) rfl
  have F__law_files : FunD K "_law_files" "_law_files" (defArgs s__law_files) (defBody s__law_files) (defScope s__law_files) [] [] (He.ga K "_law_files") fd__law_files := Z__law_files
  obtain ⟨fd__law_weights, Z__law_weights⟩ := c.def_ 37 (d := D__law_weights) rfl
  have F__law_weights : FunD K "_law_weights" "_law_weights" (defArgs s__law_weights) (defBody s__law_weights) (defScope s__law_weights) [] [] (He.ga K "_law_weights") fd__law_weights := Z__law_weights
  obtain ⟨fd__law_indexes, Z__law_indexes⟩ := c.def_ 38 (d := D__law_indexes) rfl
  have F__law_indexes : FunD K "_law_indexes" "_law_indexes" (defArgs s__law_indexes) (defBody s__law_indexes) (defScope s__law_indexes) [] [] (He.ga K "_law_indexes") fd__law_indexes := Z__law_indexes
  obtain ⟨fd__law_by_right, Z__law_by_right⟩ := c.def_ 39 (d := D__law_by_right) rfl
  have F__law_by_right : FunD K "_law_by_right" "_law_by_right" (defArgs s__law_by_right) (defBody s__law_by_right) (defScope s__law_by_right) [] [] (He.ga K "_law_by_right") fd__law_by_right := Z__law_by_right
  obtain ⟨fd__law_name_right, Z__law_name_right⟩ := c.def_ 40 (d := D__law_name_right) rfl
  have F__law_name_right : FunD K "_law_name_right" "_law_name_right" (defArgs s__law_name_right) (defBody s__law_name_right) (defScope s__law_name_right) [] [] (He.ga K "_law_name_right") fd__law_name_right := Z__law_name_right
  obtain ⟨fd_law, Z_law⟩ := c.def_ 41 (d := D_law) rfl
  have F_law : FunD K "law" "law" (defArgs s_law) (defBody s_law) (defScope s_law) [] [] (He.ga K "law") fd_law := Z_law
  obtain ⟨fd__law_heard, Z__law_heard⟩ := c.def_ 42 (d := D__law_heard) rfl
  have F__law_heard : FunD K "_law_heard" "_law_heard" (defArgs s__law_heard) (defBody s__law_heard) (defScope s__law_heard) [] [] (He.ga K "_law_heard") fd__law_heard := Z__law_heard
  obtain ⟨fd_NotUsable, Z_NotUsable⟩ := c.def_ 43 (d := D_NotUsable) rfl
  have F_NotUsable : FunD K "__init__" "NotUsable.__init__" (defArgs i_NotUsable) (defBody i_NotUsable) (defScope i_NotUsable) [] [] (He.ma K (He.ga K "NotUsable") "__init__") fd_NotUsable := Z_NotUsable
  refine lawAt_of cc X F_law (fun _ _ _ _ _ _ us hl => match us, hl with | [_], _ => rfl) true_ fun base kb gb TB => ?_
  have H_is_name : HereD K mg "is_name" "is_name" s_is_name ["thing"] := hereD_of X G F_is_name (c.fact 0 (f := .glo "is_name") rfl) fun _ _ _ _ _ _ us hl => match us, hl with | [_], _ => rfl
  have H_is_names : HereD K mg "is_names" "is_names" s_is_names ["thing"] := hereD_of X G F_is_names (c.fact 1 (f := .glo "is_names") rfl) fun _ _ _ _ _ _ us hl => match us, hl with | [_], _ => rfl
  have H_is_rising : HereD K mg "is_rising" "is_rising" s_is_rising ["rows"] := hereD_of X G F_is_rising (c.fact 2 (f := .glo "is_rising") rfl) fun _ _ _ _ _ _ us hl => match us, hl with | [_], _ => rfl
  have H_is_set : HereD K mg "is_set" "is_set" s_is_set ["thing"] := hereD_of X G F_is_set (c.fact 3 (f := .glo "is_set") rfl) fun _ _ _ _ _ _ us hl => match us, hl with | [_], _ => rfl
  have H_merged : HereD K mg "merged" "merged" s_merged ["left", "right"] := hereD_of X G F_merged (c.fact 4 (f := .glo "merged") rfl) fun _ _ _ _ _ _ us hl => match us, hl with | [_, _], _ => rfl
  have H_ascending : HereD K mg "ascending" "ascending" s_ascending ["rows"] := hereD_of X G F_ascending (c.fact 5 (f := .glo "ascending") rfl) fun _ _ _ _ _ _ us hl => match us, hl with | [_], _ => rfl
  have H_reached : HereD K mg "reached" "reached" s_reached ["uses", "start"] := hereD_of X G F_reached (c.fact 6 (f := .glo "reached") rfl) fun _ _ _ _ _ _ us hl => match us, hl with | [_, _], _ => rfl
  have H_names_of : HereD K mg "names_of" "names_of" s_names_of ["rows"] := hereD_of X G F_names_of (c.fact 7 (f := .glo "names_of") rfl) fun _ _ _ _ _ _ us hl => match us, hl with | [_], _ => rfl
  have H_has_source : HereD K mg "has_source" "has_source" s_has_source ["book", "thing"] := hereD_of X G F_has_source (c.fact 8 (f := .glo "has_source") rfl) fun _ _ _ _ _ _ us hl => match us, hl with | [_, _], _ => rfl
  have H_has_party : HereD K mg "has_party" "has_party" s_has_party ["book", "thing"] := hereD_of X G F_has_party (c.fact 9 (f := .glo "has_party") rfl) fun _ _ _ _ _ _ us hl => match us, hl with | [_, _], _ => rfl
  have H_need_name : HereD K mg "need_name" "need_name" s_need_name ["word", "thing"] := hereD_of X G F_need_name (c.fact 10 (f := .glo "need_name") rfl) fun _ _ _ _ _ _ us hl => match us, hl with | [_, _], _ => rfl
  have H_need_source : HereD K mg "need_source" "need_source" s_need_source ["word", "book", "thing"] := hereD_of X G F_need_source (c.fact 11 (f := .glo "need_source") rfl) fun _ _ _ _ _ _ us hl => match us, hl with | [_, _, _], _ => rfl
  have H_need_party : HereD K mg "need_party" "need_party" s_need_party ["word", "book", "thing"] := hereD_of X G F_need_party (c.fact 12 (f := .glo "need_party") rfl) fun _ _ _ _ _ _ us hl => match us, hl with | [_, _, _], _ => rfl
  have H_is_parties : HereD K mg "is_parties" "is_parties" s_is_parties ["book", "thing"] := hereD_of X G F_is_parties (c.fact 13 (f := .glo "is_parties") rfl) fun _ _ _ _ _ _ us hl => match us, hl with | [_, _], _ => rfl
  have H_need_parties : HereD K mg "need_parties" "need_parties" s_need_parties ["word", "book", "thing"] := hereD_of X G F_need_parties (c.fact 14 (f := .glo "need_parties") rfl) fun _ _ _ _ _ _ us hl => match us, hl with | [_, _, _], _ => rfl
  have H_files_in : HereD K mg "files_in" "files_in" s_files_in ["build"] := hereD_of X G F_files_in (c.fact 15 (f := .glo "files_in") rfl) fun _ _ _ _ _ _ us hl => match us, hl with | [_], _ => rfl
  have H_files_of : HereD K mg "files_of" "files_of" s_files_of ["book"] := hereD_of X G F_files_of (c.fact 16 (f := .glo "files_of") rfl) fun _ _ _ _ _ _ us hl => match us, hl with | [_], _ => rfl
  have H_weight_of : HereD K mg "weight_of" "weight_of" s_weight_of ["book", "parties"] := hereD_of X G F_weight_of (c.fact 17 (f := .glo "weight_of") rfl) fun _ _ _ _ _ _ us hl => match us, hl with | [_, _], _ => rfl
  have H_builds_by : HereD K mg "builds_by" "builds_by" s_builds_by ["book", "party"] := hereD_of X G F_builds_by (c.fact 18 (f := .glo "builds_by") rfl) fun _ _ _ _ _ _ us hl => match us, hl with | [_, _], _ => rfl
  have H_builds_of : HereD K mg "builds_of" "builds_of" s_builds_of ["book", "file"] := hereD_of X G F_builds_of (c.fact 19 (f := .glo "builds_of") rfl) fun _ _ _ _ _ _ us hl => match us, hl with | [_, _], _ => rfl
  have H_compiling : HereD K mg "compiling" "compiling" s_compiling ["book", "language"] := hereD_of X G F_compiling (c.fact 20 (f := .glo "compiling") rfl) fun _ _ _ _ _ _ us hl => match us, hl with | [_, _], _ => rfl
  have H_uses_below : HereD K mg "uses_below" "uses_below" s_uses_below ["book", "source"] := hereD_of X G F_uses_below (c.fact 21 (f := .glo "uses_below") rfl) fun _ _ _ _ _ _ us hl => match us, hl with | [_, _], _ => rfl
  have H__law_feed : HereD K mg "_law_feed" "_law_feed" s__law_feed ["_law_script"] := hereD_of X G F__law_feed (c.fact 22 (f := .glo "_law_feed") rfl) fun _ _ _ _ _ _ us hl => match us, hl with | [_], _ => rfl
  have H__law_draw : HereD K mg "_law_draw" "_law_draw" s__law_draw ["_law_feed_here", "_law_many"] := hereD_of X G F__law_draw (c.fact 23 (f := .glo "_law_draw") rfl) fun _ _ _ _ _ _ us hl => match us, hl with | [_, _], _ => rfl
  have H__law_pick : HereD K mg "_law_pick" "_law_pick" s__law_pick ["_law_feed_here", "_law_things"] := hereD_of X G F__law_pick (c.fact 24 (f := .glo "_law_pick") rfl) fun _ _ _ _ _ _ us hl => match us, hl with | [_, _], _ => rfl
  have H__law_names : HereD K mg "_law_names" "_law_names" s__law_names ["_law_feed_here", "_law_many"] := hereD_of X G F__law_names (c.fact 25 (f := .glo "_law_names") rfl) fun _ _ _ _ _ _ us hl => match us, hl with | [_, _], _ => rfl
  have H__law_sources : HereD K mg "_law_sources" "_law_sources" s__law_sources ["_law_feed_here", "_law_names_here", "_law_tongues"] := hereD_of X G F__law_sources (c.fact 26 (f := .glo "_law_sources") rfl) fun _ _ _ _ _ _ us hl => match us, hl with | [_, _, _], _ => rfl
  have H__law_weight : HereD K mg "_law_weight" "_law_weight" s__law_weight ["_law_feed_here"] := hereD_of X G F__law_weight (c.fact 27 (f := .glo "_law_weight") rfl) fun _ _ _ _ _ _ us hl => match us, hl with | [_], _ => rfl
  have H__law_build : HereD K mg "_law_build" "_law_build" s__law_build ["_law_feed_here", "_law_whole", "_law_blobs"] := hereD_of X G F__law_build (c.fact 28 (f := .glo "_law_build") rfl) fun _ _ _ _ _ _ us hl => match us, hl with | [_, _, _], _ => rfl
  have H__law_book : HereD K mg "_law_book" "_law_book" s__law_book ["_law_feed_here"] := hereD_of X G F__law_book (c.fact 29 (f := .glo "_law_book") rfl) fun _ _ _ _ _ _ us hl => match us, hl with | [_], _ => rfl
  have H__law_is_name : HereD K mg "_law_is_name" "_law_is_name" s__law_is_name ["_law_thing"] := hereD_of X G F__law_is_name (c.fact 30 (f := .glo "_law_is_name") rfl) fun _ _ _ _ _ _ us hl => match us, hl with | [_], _ => rfl
  have H__law_are_names : HereD K mg "_law_are_names" "_law_are_names" s__law_are_names ["_law_thing"] := hereD_of X G F__law_are_names (c.fact 31 (f := .glo "_law_are_names") rfl) fun _ _ _ _ _ _ us hl => match us, hl with | [_], _ => rfl
  have H__law_is_set : HereD K mg "_law_is_set" "_law_is_set" s__law_is_set ["_law_thing"] := hereD_of X G F__law_is_set (c.fact 32 (f := .glo "_law_is_set") rfl) fun _ _ _ _ _ _ us hl => match us, hl with | [_], _ => rfl
  have H__law_below : HereD K mg "_law_below" "_law_below" s__law_below ["_law_firsts", "_law_name"] := hereD_of X G F__law_below (c.fact 33 (f := .glo "_law_below") rfl) fun _ _ _ _ _ _ us hl => match us, hl with | [_, _], _ => rfl
  have H__law_odd : HereD K mg "_law_odd" "_law_odd" s__law_odd ["_law_feed_here"] := hereD_of X G F__law_odd (c.fact 34 (f := .glo "_law_odd") rfl) fun _ _ _ _ _ _ us hl => match us, hl with | [_], _ => rfl
  have H__law_same : HereD K mg "_law_same" "_law_same" s__law_same ["_law_seen", "_law_due"] := hereD_of X G F__law_same (c.fact 35 (f := .glo "_law_same") rfl) fun _ _ _ _ _ _ us hl => match us, hl with | [_, _], _ => rfl
  have H__law_files : HereD K mg "_law_files" "_law_files" s__law_files ["_law_whole"] := hereD_of X G F__law_files (c.fact 36 (f := .glo "_law_files") rfl) fun _ _ _ _ _ _ us hl => match us, hl with | [_], _ => rfl
  have H__law_weights : HereD K mg "_law_weights" "_law_weights" s__law_weights ["_law_feed_here", "_law_whole", "_law_folk"] := hereD_of X G F__law_weights (c.fact 37 (f := .glo "_law_weights") rfl) fun _ _ _ _ _ _ us hl => match us, hl with | [_, _, _], _ => rfl
  have H__law_indexes : HereD K mg "_law_indexes" "_law_indexes" s__law_indexes ["_law_whole", "_law_part", "_law_thing"] := hereD_of X G F__law_indexes (c.fact 38 (f := .glo "_law_indexes") rfl) fun _ _ _ _ _ _ us hl => match us, hl with | [_, _, _], _ => rfl
  have H__law_by_right : HereD K mg "_law_by_right" "_law_by_right" s__law_by_right ["_law_whole", "_law_thing"] := hereD_of X G F__law_by_right (c.fact 39 (f := .glo "_law_by_right") rfl) fun _ _ _ _ _ _ us hl => match us, hl with | [_, _], _ => rfl
  have H__law_name_right : HereD K mg "_law_name_right" "_law_name_right" s__law_name_right ["_law_whole", "_law_thing"] := hereD_of X G F__law_name_right (c.fact 40 (f := .glo "_law_name_right") rfl) fun _ _ _ _ _ _ us hl => match us, hl with | [_, _], _ => rfl
  have G__law_heard : HeardD K mg "_law_heard" "_law_ask" s__law_heard (He.ga K "_law_heard") := heardD_of X G F__law_heard (c.fact 42 (f := .glo "_law_heard") rfl)
  have E_NotUsable := K_NotUsable.heard X G
  have x_NotUsable : OwnE l.prog w K mg base "NotUsable" "word" "at" := own_NotUsable X G K_NotUsable F_NotUsable
  have d_is_name := ok_is_name (P := l.prog) (w := w) (base := base) (Θ := theta lams K) H_is_name T
  have d_is_rising := ok_is_rising (P := l.prog) (w := w) (base := base) (Θ := theta lams K) H_is_rising T
  have d_merged := ok_merged (P := l.prog) (w := w) (base := base) (Θ := theta lams K) H_merged T
  have d_reached := ok_reached (P := l.prog) (w := w) (base := base) (Θ := theta lams K) H_reached T
  have d_names_of := ok_names_of (P := l.prog) (w := w) (base := base) (Θ := theta lams K) H_names_of T
  have d_files_in := ok_files_in (P := l.prog) (w := w) (base := base) (Θ := theta lams K) H_files_in T
  have d__law_feed := ok__law_feed (P := l.prog) (w := w) (base := base) (Θ := theta lams K) H__law_feed T
  have d__law_draw := ok__law_draw (P := l.prog) (w := w) (base := base) (Θ := theta lams K) H__law_draw T
  have d__law_is_name := ok__law_is_name (P := l.prog) (w := w) (base := base) (Θ := theta lams K) H__law_is_name T
  have d__law_below := ok__law_below (P := l.prog) (w := w) (base := base) (Θ := theta lams K) H__law_below T
  have d__law_files := ok__law_files (P := l.prog) (w := w) (base := base) (Θ := theta lams K) H__law_files T
  have d__law_indexes := ok__law_indexes (P := l.prog) (w := w) (base := base) (Θ := theta lams K) H__law_indexes T
  have d_is_names := ok_is_names (P := l.prog) (w := w) (base := base) (Θ := theta lams K) H_is_names T d_is_name
  have d_ascending := ok_ascending (P := l.prog) (w := w) (base := base) (Θ := theta lams K) H_ascending T d_merged
  have d_has_source := ok_has_source (P := l.prog) (w := w) (base := base) (Θ := theta lams K) H_has_source T d_names_of
  have d_has_party := ok_has_party (P := l.prog) (w := w) (base := base) (Θ := theta lams K) H_has_party T d_names_of
  have d__law_pick := ok__law_pick (P := l.prog) (w := w) (base := base) (Θ := theta lams K) H__law_pick T d__law_draw
  have d__law_weight := ok__law_weight (P := l.prog) (w := w) (base := base) (Θ := theta lams K) H__law_weight T d__law_draw
  have d__law_are_names := ok__law_are_names (P := l.prog) (w := w) (base := base) (Θ := theta lams K) H__law_are_names T d__law_is_name
  have d_is_set := ok_is_set (P := l.prog) (w := w) (base := base) (Θ := theta lams K) H_is_set T d_is_names d_is_rising
  have d_need_name := ok_need_name (P := l.prog) (w := w) (base := base) (Θ := theta lams K) H_need_name T d_is_name x_NotUsable
  have d_need_source := ok_need_source (P := l.prog) (w := w) (base := base) (Θ := theta lams K) H_need_source T d_has_source x_NotUsable
  have d_need_party := ok_need_party (P := l.prog) (w := w) (base := base) (Θ := theta lams K) H_need_party T d_has_party x_NotUsable
  have d_files_of := ok_files_of (P := l.prog) (w := w) (base := base) (Θ := theta lams K) H_files_of T d_ascending d_files_in
  have d__law_names := ok__law_names (P := l.prog) (w := w) (base := base) (Θ := theta lams K) H__law_names T d__law_draw d__law_pick
  have d__law_sources := ok__law_sources (P := l.prog) (w := w) (base := base) (Θ := theta lams K) H__law_sources T d__law_draw d__law_pick
  have d__law_build := ok__law_build (P := l.prog) (w := w) (base := base) (Θ := theta lams K) H__law_build T d__law_pick d__law_draw
  have d__law_is_set := ok__law_is_set (P := l.prog) (w := w) (base := base) (Θ := theta lams K) H__law_is_set T d__law_are_names
  have d__law_odd := ok__law_odd (P := l.prog) (w := w) (base := base) (Θ := theta lams K) H__law_odd T d__law_pick
  have d_is_parties := ok_is_parties (P := l.prog) (w := w) (base := base) (Θ := theta lams K) H_is_parties T d_is_set d_has_party
  have d_builds_by := ok_builds_by (P := l.prog) (w := w) (base := base) (Θ := theta lams K) H_builds_by T d_need_party
  have d_builds_of := ok_builds_of (P := l.prog) (w := w) (base := base) (Θ := theta lams K) H_builds_of T d_need_name
  have d_compiling := ok_compiling (P := l.prog) (w := w) (base := base) (Θ := theta lams K) H_compiling T d_need_name
  have d_uses_below := ok_uses_below (P := l.prog) (w := w) (base := base) (Θ := theta lams K) H_uses_below T d_need_source d_ascending d_reached
  have d__law_book := ok__law_book (P := l.prog) (w := w) (base := base) (Θ := theta lams K) H__law_book T d__law_names d__law_draw d__law_sources d__law_weight d__law_build
  have d_need_parties := ok_need_parties (P := l.prog) (w := w) (base := base) (Θ := theta lams K) H_need_parties T d_is_parties x_NotUsable
  have d_weight_of := ok_weight_of (P := l.prog) (w := w) (base := base) (Θ := theta lams K) H_weight_of T d_need_parties
  have d__law_same := ok__law_same (P := l.prog) (w := w) (base := base) (Θ := theta lams K) H__law_same T 12
  have d__law_weights := ok__law_weights (P := l.prog) (w := w) (base := base) (Θ := theta lams K) H__law_weights (lamIn_of X G F__law_weights (c.fact 37 (f := .glo "_law_weights") rfl) nd (by decide +kernel) (TB "_law_weights" (by decide +kernel))) T d__law_draw d__law_pick d__law_odd d__law_is_set d__law_same d_weight_of G__law_heard E_NotUsable
  have d__law_by_right := ok__law_by_right (P := l.prog) (w := w) (base := base) (Θ := theta lams K) H__law_by_right (lamIn_of X G F__law_by_right (c.fact 39 (f := .glo "_law_by_right") rfl) nd (by decide +kernel) (TB "_law_by_right" (by decide +kernel))) T d__law_indexes d__law_same d_builds_by d__law_below d_uses_below G__law_heard E_NotUsable
  have d__law_name_right := ok__law_name_right (P := l.prog) (w := w) (base := base) (Θ := theta lams K) H__law_name_right (lamIn_of X G F__law_name_right (c.fact 40 (f := .glo "_law_name_right") rfl) nd (by decide +kernel) (TB "_law_name_right" (by decide +kernel))) T d__law_is_name d__law_indexes d__law_same d_builds_of d_compiling G__law_heard E_NotUsable
  exact fn_law F_law T d__law_feed d__law_book d__law_same d__law_files d_files_of d__law_odd d__law_by_right d__law_name_right d__law_weights
def loose0 : List Str := ["RebuiltError", "BookError", "NotUsable", "FIRST_SIGNS", "SIGNS", "LONGEST_NAME", "is_name", "is_names", "is_rising", "is_set", "merged", "ascending", "reached", "names_of", "has_source", "has_party", "need_name", "need_source", "need_party", "is_parties", "need_parties", "files_of", "files_in", "weight_of", "builds_by", "builds_of", "compiling", "uses_below", "_law_feed", "_law_draw"]
def loose1 : List Str := ["_law_pick", "_law_names", "_law_sources", "_law_weight", "_law_build", "_law_book", "_law_is_name", "_law_are_names", "_law_is_set", "_law_below", "_law_odd", "_law_same", "_law_heard", "_law_files", "_law_weights", "_law_indexes", "_law_by_right", "_law_name_right"]
def loose : List Str := loose0 ++ loose1
theorem run (w : World) : HandSHeadRun.RunEq R (PySem.W.view R.prog [53]) hk ob 3000 loose w := by
  intro os
  kernel_rfl
end K04

set_option maxHeartbeats 4000000
namespace K04
open PySem PySem.Spec PyProof.Rows L2 J
def inT (x y : Str) : Bool := !(Builtin.Str.occurrences y x 0 y.length 1).isEmpty
def sgn (c : Nat) : Str := ⟨#[c]⟩
abbrev FS : Str := "abcdefghijklmnopqrstuvwxyz"
abbrev SG : Str := "abcdefghijklmnopqrstuvwxyz0123456789"
def isName : D → Bool
  | .str z => (decide (1 ≤ (z.length : Int)) && decide ((z.length : Int) ≤ 8)) && ((match z.cps.toList with | [] => false | c :: _ => inT (sgn c) FS) && z.cps.toList.all fun c => inT (sgn c) SG)
  | _ => false
theorem len_cps (z : Str) : z.length = z.cps.toList.length := by simp [Str.length]
theorem atI_nat {α : Type} {xs : List α} {k : Nat} : atI xs (k : Int) = xs[k]? := by
  unfold atI ixN
  rw [if_pos (Int.natCast_nonneg k)]
  by_cases h : k < xs.length
  · rw [if_pos (by omega)]; rfl
  · rw [if_neg (by omega), List.getElem?_eq_none (by omega)]; rfl
theorem gLe_i (i j : Int) : gLe (.int i) (.int j) = some (.bl (decide (i ≤ j))) := rfl
theorem gGe_i (i j : Int) : gGe (.int i) (.int j) = some (.bl (decide (j ≤ i))) := rfl
theorem gGt_i (i j : Int) : gGt (.int i) (.int j) = some (.bl (decide (j < i))) := rfl
theorem gLt_i (i j : Int) : gLt (.int i) (.int j) = some (.bl (decide (i < j))) := rfl
theorem gAdd_i (i j : Int) : gAdd (.int i) (.int j) = some (.int (i + j)) := rfl
theorem gIn_s (i j : Str) : gIn false (.str i) (.str j) = some (.bl (inT i j)) := rfl
theorem gIn_sn (i j : Str) : gIn true (.str i) (.str j) = some (.bl (!inT i j)) := rfl
theorem gIx_0 {z : Str} {c : Nat} {r : List Nat} (h : z.cps.toList = c :: r) (hz : z.length ≤ 3000) : gIx (.str z) (.int 0) = some (.str (sgn c)) := by
  show (if z.length ≤ sizeLine then (atI z.cps.toList 0).map fun c => D.str ⟨#[c]⟩ else none) = _
  rw [if_pos (by rw [sizeLine_eq]; omega), h, show (0 : Int) = ((0 : Nat) : Int) from rfl, atI_nat]
  rfl
theorem isT_tt (xs : List D) : isT .tuple (.tup xs) = true := rfl
theorem isT_ss (z : Str) : isT .str (.str z) = true := rfl
theorem v_name (d : D) (g : good d = true) (S : Store) : f_is_name [d] S = some (.bl (isName d), S) := by
  cases d with
  | str z =>
    rw [good, Bool.and_eq_true, decide_eq_true_eq] at g
    have hz : z.length ≤ sizeLine := by rw [sizeLine_eq]; omega
    have C : lComp [1] (iOf (eP 0)) (bName 1) cYes (e2 (gIn false) (eP 1) (eC (.str SG))) [.d (.str z), .un] S = some ((J.signs z).map fun x => .bl (match x with | .str y => inT y SG | _ => false), S) :=
      lComp_map (fun x => .bl (match x with | .str y => inT y SG | _ => false)) rfl (by unfold J.signs; rw [List.length_map, ← len_cps]; omega) fun x m => by
        unfold J.signs at m
        obtain ⟨c, _, rfl⟩ := List.mem_map.mp m
        exact ⟨_, rfl, rfl, rfl⟩
    have A : (J.signs z).all (fun x => match x with | .str y => inT y SG | _ => false) = z.cps.toList.all fun c => inT (sgn c) SG := by
      unfold J.signs; rw [List.all_map]; rfl
    unfold f_is_name g_is_name isName
    by_cases h1 : (1 : Int) ≤ (z.length : Int)
    · by_cases h2 : (z.length : Int) ≤ 8
      · obtain ⟨c, r, e⟩ : ∃ c r, z.cps.toList = c :: r := by
          cases q : z.cps.toList with
          | nil => rw [len_cps, q] at h1; simp at h1
          | cons c r => exact ⟨c, r, rfl⟩
        simp only [runDef, sSeq, sNil, sRet, sIf, sSet, sSetL, sExt, sApp, sPar, sFreeze, sDrop, eC, eV, eP, e1, e2, l2, eL, aN, aC, aG, aGL, tOf, tAndJ, tOrJ, tNotJ, eAnd, eOr, eNot, eIf, eCh, tTru, gTru, eTup, lDisp, iOf, J.items?, iRg1, iRg2, cYes, bName, bTup, bCons, bNil, mN, mD, mO, setsS, eCall, gIsi, gIsi2, isT_tt, gLen, gI0, gLe_i, gGe_i, gGt_i, gLt_i, gAdd_i,  gListL, gTuple, eSl, oN, oS, List.map_cons, List.map_nil, List.map, List.replicate, List.length_cons, List.length_nil, List.nil_append, List.cons_append, List.append_nil, List.set_cons_zero, List.set_cons_succ, List.set, List.length, List.getElem?_cons_zero, List.getElem?_cons_succ, Nat.sub, Nat.reduceSub, Nat.reduceAdd, Nat.reduceLT, Nat.reduceLeDiff, List.getElem?_nil, Bool.false_eq_true, if_true, if_false, Bool.true_and, Bool.false_and, Bool.and_true, Bool.and_false, Bool.not_true, Bool.not_false, Bool.true_or, Bool.or_true, Bool.or_false, Bool.false_or, wipeE, isT_ss, if_pos hz, decide_eq_true h1, decide_eq_true h2, gIx_0 e g.2, gIn_s, C, gAll_map, A]
        rw [e]
        simp only
        cases inT (sgn c) FS <;> simp only [runDef, sSeq, sNil, sRet, sIf, sSet, sSetL, sExt, sApp, sPar, sFreeze, sDrop, eC, eV, eP, e1, e2, l2, eL, aN, aC, aG, aGL, tOf, tAndJ, tOrJ, tNotJ, eAnd, eOr, eNot, eIf, eCh, tTru, gTru, eTup, lDisp, iOf, J.items?, iRg1, iRg2, cYes, bName, bTup, bCons, bNil, mN, mD, mO, setsS, eCall, gIsi, gIsi2, isT_tt, gLen, gI0, gLe_i, gGe_i, gGt_i, gLt_i, gAdd_i,  gListL, gTuple, eSl, oN, oS, List.map_cons, List.map_nil, List.map, List.replicate, List.length_cons, List.length_nil, List.nil_append, List.cons_append, List.append_nil, List.set_cons_zero, List.set_cons_succ, List.set, List.length, List.getElem?_cons_zero, List.getElem?_cons_succ, Nat.sub, Nat.reduceSub, Nat.reduceAdd, Nat.reduceLT, Nat.reduceLeDiff, List.getElem?_nil, Bool.false_eq_true, if_true, if_false, Bool.true_and, Bool.false_and, Bool.and_true, Bool.and_false, Bool.not_true, Bool.not_false, Bool.true_or, Bool.or_true, Bool.or_false, Bool.false_or, wipeE, isT_ss, C, gAll_map, A, e]
      · simp only [runDef, sSeq, sNil, sRet, sIf, sSet, sSetL, sExt, sApp, sPar, sFreeze, sDrop, eC, eV, eP, e1, e2, l2, eL, aN, aC, aG, aGL, tOf, tAndJ, tOrJ, tNotJ, eAnd, eOr, eNot, eIf, eCh, tTru, gTru, eTup, lDisp, iOf, J.items?, iRg1, iRg2, cYes, bName, bTup, bCons, bNil, mN, mD, mO, setsS, eCall, gIsi, gIsi2, isT_tt, gLen, gI0, gLe_i, gGe_i, gGt_i, gLt_i, gAdd_i,  gListL, gTuple, eSl, oN, oS, List.map_cons, List.map_nil, List.map, List.replicate, List.length_cons, List.length_nil, List.nil_append, List.cons_append, List.append_nil, List.set_cons_zero, List.set_cons_succ, List.set, List.length, List.getElem?_cons_zero, List.getElem?_cons_succ, Nat.sub, Nat.reduceSub, Nat.reduceAdd, Nat.reduceLT, Nat.reduceLeDiff, List.getElem?_nil, Bool.false_eq_true, if_true, if_false, Bool.true_and, Bool.false_and, Bool.and_true, Bool.and_false, Bool.not_true, Bool.not_false, Bool.true_or, Bool.or_true, Bool.or_false, Bool.false_or, wipeE, isT_ss, if_pos hz, decide_eq_true h1, decide_eq_false h2]
    · simp only [runDef, sSeq, sNil, sRet, sIf, sSet, sSetL, sExt, sApp, sPar, sFreeze, sDrop, eC, eV, eP, e1, e2, l2, eL, aN, aC, aG, aGL, tOf, tAndJ, tOrJ, tNotJ, eAnd, eOr, eNot, eIf, eCh, tTru, gTru, eTup, lDisp, iOf, J.items?, iRg1, iRg2, cYes, bName, bTup, bCons, bNil, mN, mD, mO, setsS, eCall, gIsi, gIsi2, isT_tt, gLen, gI0, gLe_i, gGe_i, gGt_i, gLt_i, gAdd_i,  gListL, gTuple, eSl, oN, oS, List.map_cons, List.map_nil, List.map, List.replicate, List.length_cons, List.length_nil, List.nil_append, List.cons_append, List.append_nil, List.set_cons_zero, List.set_cons_succ, List.set, List.length, List.getElem?_cons_zero, List.getElem?_cons_succ, Nat.sub, Nat.reduceSub, Nat.reduceAdd, Nat.reduceLT, Nat.reduceLeDiff, List.getElem?_nil, Bool.false_eq_true, if_true, if_false, Bool.true_and, Bool.false_and, Bool.and_true, Bool.and_false, Bool.not_true, Bool.not_false, Bool.true_or, Bool.or_true, Bool.or_false, Bool.false_or, wipeE, isT_ss, if_pos hz, decide_eq_false h1]
  | _ => rfl
end K04

set_option maxHeartbeats 4000000
namespace K04
open PySem PySem.Spec PyProof.Rows L2 J
theorem good_tup {xs : List D} (g : good (.tup xs) = true) : xs.length ≤ 20000 ∧ ∀ x ∈ xs, good x = true := by
  rw [good, Bool.and_eq_true, decide_eq_true_eq, goods_all] at g; exact g
def isNames : D → Bool | .tup xs => xs.all isName | _ => false
theorem v_names (d : D) (g : good d = true) (S : Store) : f_is_names [d] S = some (.bl (isNames d), S) := by
  cases d with
  | tup xs =>
    have gg := good_tup g
    have C : lComp [1] (iOf (eP 0)) (bName 1) cYes (eCall f_is_name (aC (eV 1) aN)) [.d (.tup xs), .un] S = some (xs.map fun x => .bl (isName x), S) :=
      lComp_map _ rfl (by omega) fun x m => ⟨_, rfl, rfl, v_name x (gg.2 x m) S⟩
    unfold f_is_names g_is_names isNames
    simp only [runDef, sSeq, sNil, sRet, sIf, sSet, sSetL, sExt, sApp, sPar, sFreeze, sDrop, eC, eV, eP, e1, e2, l2, eL, aN, aC, aG, aGL, tOf, tAndJ, tOrJ, tNotJ, eAnd, eOr, eNot, eIf, eCh, tTru, gTru, eTup, lDisp, iOf, J.items?, iRg1, iRg2, cYes, bName, bTup, bCons, bNil, mN, mD, mO, setsS, eCall, gIsi, gIsi2, isT_tt, gLen, gI0, gLe_i, gGe_i, gGt_i, gLt_i, gAdd_i,  gListL, gTuple, eSl, oN, oS, List.map_cons, List.map_nil, List.map, List.replicate, List.length_cons, List.length_nil, List.nil_append, List.cons_append, List.append_nil, List.set_cons_zero, List.set_cons_succ, List.set, List.length, List.getElem?_cons_zero, List.getElem?_cons_succ, Nat.sub, Nat.reduceSub, Nat.reduceAdd, Nat.reduceLT, Nat.reduceLeDiff, List.getElem?_nil, Bool.false_eq_true, if_true, if_false, Bool.true_and, Bool.false_and, Bool.and_true, Bool.and_false, Bool.not_true, Bool.not_false, Bool.true_or, Bool.or_true, Bool.or_false, Bool.false_or, wipeE, C, gAll_map]
  | _ => rfl
def ltD : D → D → Bool
  | .str x, .str y => decide (x.cps.toList < y.cps.toList)
  | _, _ => false
def ris (xs : List D) : Bool := (List.range (xs.length - 1)).all fun k => ltD (xs.getD k .non) (xs.getD (k + 1) .non)
theorem name_str {x : D} (h : isName x = true) : ∃ z, x = .str z := by
  cases x with
  | str z => exact ⟨z, rfl⟩
  | _ => cases h
theorem atI_getD {xs : List D} {k : Nat} (h : k < xs.length) : atI xs (k : Int) = some (xs.getD k .non) := by
  rw [atI_nat, List.getD_eq_getElem?_getD, List.getElem?_eq_getElem h]; rfl
theorem v_rising (xs : List D) (hz : xs.length ≤ 20000) (hn : ∀ x ∈ xs, isName x = true) (S : Store) : f_is_rising [.tup xs] S = some (.bl (ris xs), S) := by
  have st : ∀ k, k < xs.length → ∃ z, xs.getD k .non = .str z := fun k h => name_str (hn _ (by
    rw [List.getD_eq_getElem?_getD, List.getElem?_eq_getElem h]; exact List.getElem_mem h))
  have L : (iRg1 (aC (e2 (gI0 fun i j => i - j) (aG gLen (aC (eP 0) aN)) (eC (.int 1))) aN)) [.d (.tup xs), .un] S = some (ranged 0 (xs.length - 1), S) := by
    simp only [runDef, sSeq, sNil, sRet, sIf, sSet, sSetL, sExt, sApp, sPar, sFreeze, sDrop, eC, eV, eP, e1, e2, l2, eL, aN, aC, aG, aGL, tOf, tAndJ, tOrJ, tNotJ, eAnd, eOr, eNot, eIf, eCh, tTru, gTru, eTup, lDisp, iOf, J.items?, iRg1, iRg2, cYes, bName, bTup, bCons, bNil, mN, mD, mO, setsS, eCall, gIsi, gIsi2, isT_tt, gLen, gI0, gLe_i, gGe_i, gGt_i, gLt_i, gAdd_i,  gListL, gTuple, eSl, oN, oS, List.map_cons, List.map_nil, List.map, List.replicate, List.length_cons, List.length_nil, List.nil_append, List.cons_append, List.append_nil, List.set_cons_zero, List.set_cons_succ, List.set, List.length, List.getElem?_cons_zero, List.getElem?_cons_succ, Nat.sub, Nat.reduceSub, Nat.reduceAdd, Nat.reduceLT, Nat.reduceLeDiff, List.getElem?_nil, Bool.false_eq_true, if_true, if_false, Bool.true_and, Bool.false_and, Bool.and_true, Bool.and_false, Bool.not_true, Bool.not_false, Bool.true_or, Bool.or_true, Bool.or_false, Bool.false_or, wipeE]
    rw [if_pos (by omega)]
    congr 3
    omega
  have C : lComp [1] (iRg1 (aC (e2 (gI0 fun i j => i - j) (aG gLen (aC (eP 0) aN)) (eC (.int 1))) aN)) (bName 1) cYes (e2 gLt (e2 gIx (eP 0) (eP 1)) (e2 gIx (eP 0) (e2 gAdd (eP 1) (eC (.int 1))))) [.d (.tup xs), .un] S
      = some ((ranged 0 (xs.length - 1)).map fun x => .bl (match x with | .int k => ltD (xs.getD k.toNat .non) (xs.getD (k.toNat + 1) .non) | _ => false), S) :=
    lComp_map (fun x => .bl (match x with | .int k => ltD (xs.getD k.toNat .non) (xs.getD (k.toNat + 1) .non) | _ => false)) L (by unfold ranged; rw [List.length_map, List.length_range]; omega) fun x m => by
      unfold ranged at m
      obtain ⟨k, hk, rfl⟩ := List.mem_map.mp m
      have hk := List.mem_range.mp hk
      have e0 : (0 : Int) + (k : Int) = (k : Int) := by omega
      obtain ⟨z1, q1⟩ := st k (by omega)
      obtain ⟨z2, q2⟩ := st (k + 1) (by omega)
      refine ⟨_, rfl, rfl, ?_⟩
      have i1 : gIx (.tup xs) (.int ((k : Nat) : Int)) = some (xs.getD k .non) := atI_getD (by omega)
      have i2 : gIx (.tup xs) (.int ((k : Int) + 1)) = some (xs.getD (k + 1) .non) := atI_getD (k := k + 1) (by omega)
      simp only [runDef, sSeq, sNil, sRet, sIf, sSet, sSetL, sExt, sApp, sPar, sFreeze, sDrop, eC, eV, eP, e1, e2, l2, eL, aN, aC, aG, aGL, tOf, tAndJ, tOrJ, tNotJ, eAnd, eOr, eNot, eIf, eCh, tTru, gTru, eTup, lDisp, iOf, J.items?, iRg1, iRg2, cYes, bName, bTup, bCons, bNil, mN, mD, mO, setsS, eCall, gIsi, gIsi2, isT_tt, gLen, gI0, gLe_i, gGe_i, gGt_i, gLt_i, gAdd_i,  gListL, gTuple, eSl, oN, oS, List.map_cons, List.map_nil, List.map, List.replicate, List.length_cons, List.length_nil, List.nil_append, List.cons_append, List.append_nil, List.set_cons_zero, List.set_cons_succ, List.set, List.length, List.getElem?_cons_zero, List.getElem?_cons_succ, Nat.sub, Nat.reduceSub, Nat.reduceAdd, Nat.reduceLT, Nat.reduceLeDiff, List.getElem?_nil, Bool.false_eq_true, if_true, if_false, Bool.true_and, Bool.false_and, Bool.and_true, Bool.and_false, Bool.not_true, Bool.not_false, Bool.true_or, Bool.or_true, Bool.or_false, Bool.false_or, wipeE, e0, i1, i2, q1, q2, Int.toNat_natCast]
      rfl
  have A : (ranged 0 (xs.length - 1)).all (fun x => match x with | .int k => ltD (xs.getD k.toNat .non) (xs.getD (k.toNat + 1) .non) | _ => false) = ris xs := by
    unfold ranged ris
    rw [List.all_map]
    congr 1
    funext k
    show ltD (xs.getD ((0 : Int) + (k : Int)).toNat .non) (xs.getD (((0 : Int) + (k : Int)).toNat + 1) .non) = _
    rw [show ((0 : Int) + (k : Int)).toNat = k by omega]
  unfold f_is_rising g_is_rising
  simp only [runDef, sSeq, sNil, sRet, sIf, sSet, sSetL, sExt, sApp, sPar, sFreeze, sDrop, eC, eV, eP, e1, e2, l2, eL, aN, aC, aG, aGL, tOf, tAndJ, tOrJ, tNotJ, eAnd, eOr, eNot, eIf, eCh, tTru, gTru, eTup, lDisp, iOf, J.items?, iRg1, iRg2, cYes, bName, bTup, bCons, bNil, mN, mD, mO, setsS, eCall, gIsi, gIsi2, isT_tt, gLen, gI0, gLe_i, gGe_i, gGt_i, gLt_i, gAdd_i,  gListL, gTuple, eSl, oN, oS, List.map_cons, List.map_nil, List.map, List.replicate, List.length_cons, List.length_nil, List.nil_append, List.cons_append, List.append_nil, List.set_cons_zero, List.set_cons_succ, List.set, List.length, List.getElem?_cons_zero, List.getElem?_cons_succ, Nat.sub, Nat.reduceSub, Nat.reduceAdd, Nat.reduceLT, Nat.reduceLeDiff, List.getElem?_nil, Bool.false_eq_true, if_true, if_false, Bool.true_and, Bool.false_and, Bool.and_true, Bool.and_false, Bool.not_true, Bool.not_false, Bool.true_or, Bool.or_true, Bool.or_false, Bool.false_or, wipeE, C, gAll_map, A]
def isSet : D → Bool | .tup xs => xs.all isName && ris xs | _ => false
theorem v_set (d : D) (g : good d = true) (S : Store) : f_is_set [d] S = some (.bl (isSet d), S) := by
  cases d with
  | tup xs =>
    have gg := good_tup g
    have N := v_names (.tup xs) g S
    unfold f_is_set g_is_set isSet
    cases q : xs.all isName with
    | false => simp only [runDef, sSeq, sNil, sRet, sIf, sSet, sSetL, sExt, sApp, sPar, sFreeze, sDrop, eC, eV, eP, e1, e2, l2, eL, aN, aC, aG, aGL, tOf, tAndJ, tOrJ, tNotJ, eAnd, eOr, eNot, eIf, eCh, tTru, gTru, eTup, lDisp, iOf, J.items?, iRg1, iRg2, cYes, bName, bTup, bCons, bNil, mN, mD, mO, setsS, eCall, gIsi, gIsi2, isT_tt, gLen, gI0, gLe_i, gGe_i, gGt_i, gLt_i, gAdd_i,  gListL, gTuple, eSl, oN, oS, List.map_cons, List.map_nil, List.map, List.replicate, List.length_cons, List.length_nil, List.nil_append, List.cons_append, List.append_nil, List.set_cons_zero, List.set_cons_succ, List.set, List.length, List.getElem?_cons_zero, List.getElem?_cons_succ, Nat.sub, Nat.reduceSub, Nat.reduceAdd, Nat.reduceLT, Nat.reduceLeDiff, List.getElem?_nil, Bool.false_eq_true, if_true, if_false, Bool.true_and, Bool.false_and, Bool.and_true, Bool.and_false, Bool.not_true, Bool.not_false, Bool.true_or, Bool.or_true, Bool.or_false, Bool.false_or, wipeE, N, isNames, q]
    | true =>
      have R := v_rising xs gg.1 (fun x m => List.all_eq_true.mp q x m) S
      simp only [runDef, sSeq, sNil, sRet, sIf, sSet, sSetL, sExt, sApp, sPar, sFreeze, sDrop, eC, eV, eP, e1, e2, l2, eL, aN, aC, aG, aGL, tOf, tAndJ, tOrJ, tNotJ, eAnd, eOr, eNot, eIf, eCh, tTru, gTru, eTup, lDisp, iOf, J.items?, iRg1, iRg2, cYes, bName, bTup, bCons, bNil, mN, mD, mO, setsS, eCall, gIsi, gIsi2, isT_tt, gLen, gI0, gLe_i, gGe_i, gGt_i, gLt_i, gAdd_i,  gListL, gTuple, eSl, oN, oS, List.map_cons, List.map_nil, List.map, List.replicate, List.length_cons, List.length_nil, List.nil_append, List.cons_append, List.append_nil, List.set_cons_zero, List.set_cons_succ, List.set, List.length, List.getElem?_cons_zero, List.getElem?_cons_succ, Nat.sub, Nat.reduceSub, Nat.reduceAdd, Nat.reduceLT, Nat.reduceLeDiff, List.getElem?_nil, Bool.false_eq_true, if_true, if_false, Bool.true_and, Bool.false_and, Bool.and_true, Bool.and_false, Bool.not_true, Bool.not_false, Bool.true_or, Bool.or_true, Bool.or_false, Bool.false_or, wipeE, N, isNames, q, R]
  | _ => rfl
theorem gEq_i {neg : Bool} (a b : Int) : gEq neg (.int a) (.int b) = some (.bl (if neg then !(a == b) else a == b)) := rfl
def isRow : D → Int → Bool | .tup xs, n => (xs.length : Int) == n | _, _ => false
def isSource : D → Bool | .tup [a, b, c, d, e] => (isName a && isName b) && (isSet c && (isT .bool d && isSet e)) | _ => false
def isParty : D → Bool | .tup [a, b] => isName a && ((isT .int b && !isT .bool b) && (match b with | .int i => decide (1 ≤ i) | _ => false)) | _ => false
def isNon : D → Bool | .non => true | _ => false
def isBuild : D → Bool | .tup [a, b, c, d, e] => (isName a && (isName c && isName e)) && (if isNon b then isUnit d else isName b && isNames d) | _ => false
def isFact : D → Bool | .tup [a, b] => isName a && isName b | _ => false
def isBook : D → Bool | .tup [a, b, c, d] => (isT .tuple a && isT .tuple b && isT .tuple c && isT .tuple d) && (match a, b, c, d with | .tup a, .tup b, .tup c, .tup d => (a.all isSource && b.all isParty) && (c.all isFact && d.all isBuild) | _, _, _, _ => false) | _ => false
theorem five {xs : List D} (h : (xs.length : Int) = 5) : ∃ a b c d e, xs = [a, b, c, d, e] := by
  match xs, h with
  | [a, b, c, d, e], _ => exact ⟨a, b, c, d, e, rfl⟩
  | [], h | [_], h | [_, _], h | [_, _, _], h | [_, _, _, _], h => simp at h
  | _ :: _ :: _ :: _ :: _ :: _ :: _, h => simp at h; omega
theorem four {xs : List D} (h : (xs.length : Int) = 4) : ∃ a b c d, xs = [a, b, c, d] := by
  match xs, h with
  | [a, b, c, d], _ => exact ⟨a, b, c, d, rfl⟩
  | [], h | [_], h | [_, _], h | [_, _, _], h => simp at h
  | _ :: _ :: _ :: _ :: _ :: _, h => simp at h; omega
theorem two {xs : List D} (h : (xs.length : Int) = 2) : ∃ a b, xs = [a, b] := by
  match xs, h with
  | [a, b], _ => exact ⟨a, b, rfl⟩
  | [], h | [_], h => simp at h
  | _ :: _ :: _ :: _, h => simp at h; omega
theorem isSource_no {xs : List D} (h : ¬ (xs.length : Int) = 5) : isSource (.tup xs) = false := by
  unfold isSource; split
  · rename_i q; cases q; exact absurd rfl h
  · rfl
theorem isBuild_no {xs : List D} (h : ¬ (xs.length : Int) = 5) : isBuild (.tup xs) = false := by
  unfold isBuild; split
  · rename_i q; cases q; exact absurd rfl h
  · rfl
theorem isParty_no {xs : List D} (h : ¬ (xs.length : Int) = 2) : isParty (.tup xs) = false := by
  unfold isParty; split
  · rename_i q; cases q; exact absurd rfl h
  · rfl
theorem isFact_no {xs : List D} (h : ¬ (xs.length : Int) = 2) : isFact (.tup xs) = false := by
  unfold isFact; split
  · rename_i q; cases q; exact absurd rfl h
  · rfl
theorem isBook_no {xs : List D} (h : ¬ (xs.length : Int) = 4) : isBook (.tup xs) = false := by
  unfold isBook; split
  · rename_i q; cases q; exact absurd rfl h
  · rfl
theorem gIs_non (d : D) : gIs false d .non = some (.bl (isNon d)) := by cases d <;> rfl
theorem isT_tup {d : D} (h : isT .tuple d = true) : ∃ xs, d = .tup xs := by
  cases d with
  | tup xs => exact ⟨xs, rfl⟩
  | _ => cases h
theorem all_comp {F : FN} {p : D → Bool} {ρ : J.Env} {S : Store} {j : Nat} {xs : List D} (l : EL) (hl : l ρ S = some (xs, S)) (hz : xs.length ≤ 20000) (hj : j < ρ.length) (h : ∀ x ∈ xs, F [x] S = some (.bl (p x), S)) :
    lComp [j] l (bName j) cYes (eCall F (aC (eV j) aN)) ρ S = some (xs.map fun x => .bl (p x), S) :=
  lComp_map _ hl (by omega) fun x m => ⟨_, rfl, rfl, by
    have e : (((wipeE ρ [j]).set j (.d x))[j]?) = some (.d x) := by
      unfold wipeE
      rw [List.getElem?_set_self (by simp [wipeE]; exact hj)]
    simp only [eCall, aC, eV, e, aN, h x m]⟩
theorem gAll4 (p q r s : Bool) : gAll [.lst [.bl p, .bl q, .bl r, .bl s]] = some (.bl (p && q && r && s)) := by cases p <;> cases q <;> cases r <;> cases s <;> rfl
end K04

set_option maxHeartbeats 4000000
namespace K04
open PySem PySem.Spec PyProof.Rows L2 J
theorem filter_no {α : Type} (p : α → Bool) (xs : List α) : (xs.filter fun x => !p x).isEmpty = xs.all p := by
  induction xs with
  | nil => rfl
  | cons x r ih =>
    cases q : p x
    · rw [List.filter_cons_of_pos (by simp [q])]; simp [q]
    · rw [List.filter_cons_of_neg (by simp [q]), ih]; simp [q]
theorem goods_filter {xs : List D} {p : D → Bool} (h : ∀ x ∈ xs, good x = true) : goods (xs.filter p) = true := (goods_all _).mpr fun x m => h x (List.mem_filter.mp m).1
theorem dpts_filter {xs : List D} {p : D → Bool} {n : Nat} (h : ∀ x ∈ xs, dpt x ≤ n) : dpts (xs.filter p) ≤ n := (dpts_le _).mpr fun x m => h x (List.mem_filter.mp m).1
theorem dpt_tup {xs : List D} {n : Nat} (h : dpt (.tup xs) ≤ n + 1) : ∀ x ∈ xs, dpt x ≤ n := (dpts_le xs).mp (by simp only [dpt] at h; omega)
theorem cut26 : gSl (.str SG) none (some 26) = some (.str FS) := by rfl
theorem vl_name (d : D) (g : good d = true) (S : Store) : f__law_is_name [d] S = some (.bl (isName d), S) := by
  cases d with
  | str z =>
    rw [good, Bool.and_eq_true, decide_eq_true_eq] at g
    have hz : z.length ≤ sizeLine := by rw [sizeLine_eq]; omega
    have hg : ∀ x ∈ J.signs z, good x = true := fun x m => by
      unfold J.signs at m
      obtain ⟨c, hc, rfl⟩ := List.mem_map.mp m
      have h1 := Array.all_eq_true'.mp g.1 c (by simpa using hc)
      rw [good, Bool.and_eq_true]
      exact ⟨by simpa using h1, rfl⟩
    have hd : ∀ x ∈ J.signs z, dpt x ≤ 63 := fun x m => by
      unfold J.signs at m
      obtain ⟨c, hc, rfl⟩ := List.mem_map.mp m
      exact Nat.zero_le _
    have C : ∀ ρ : J.Env, ρ = [.d (.str z), .d (.str SG), .un] → lComp [2] (iOf (eP 0)) (bName 2) (tOf (e2 (gIn true) (eP 2) (eP 1))) (eV 2) ρ S = some ((J.signs z).filter fun x => !(match x with | .str y => inT y SG | _ => false), S) := fun ρ e => by
      subst e
      refine lComp_filter (fun x => !(match x with | .str y => inT y SG | _ => false)) rfl (by unfold J.signs; rw [List.length_map, ← len_cps]; omega) fun x m => ?_
      unfold J.signs at m
      obtain ⟨c, _, rfl⟩ := List.mem_map.mp m
      exact ⟨_, rfl, rfl, rfl⟩
    have A : (J.signs z).all (fun x => match x with | .str y => inT y SG | _ => false) = z.cps.toList.all fun c => inT (sgn c) SG := by
      unfold J.signs; rw [List.all_map]; rfl
    have N := gEq_nil (neg := false) (goods_filter (p := fun x => !(match x with | .str y => inT y SG | _ => false)) hg) (dpts_filter hd)
    rw [filter_no, A] at N
    unfold f__law_is_name g__law_is_name isName
    by_cases h1 : (1 : Int) ≤ (z.length : Int)
    · by_cases h2 : (z.length : Int) ≤ 8
      · obtain ⟨c, r, e⟩ : ∃ c r, z.cps.toList = c :: r := by
          cases q : z.cps.toList with
          | nil => rw [len_cps, q] at h1; simp at h1
          | cons c r => exact ⟨c, r, rfl⟩
        simp only [runDef, sSeq, sNil, sRet, sIf, sSet, sSetL, sExt, sApp, sPar, sFreeze, sDrop, eC, eV, eP, e1, e2, l2, eL, aN, aC, aG, aGL, tOf, tAndJ, tOrJ, tNotJ, eAnd, eOr, eNot, eIf, eCh, tTru, gTru, eTup, lDisp, iOf, J.items?, iRg1, iRg2, cYes, bName, bTup, bCons, bNil, mN, mD, mO, setsS, eCall, gIsi, gIsi2, isT_tt, gLen, gI0, gLe_i, gGe_i, gGt_i, gLt_i, gAdd_i,  gListL, gTuple, eSl, oN, oS, List.map_cons, List.map_nil, List.map, List.replicate, List.length_cons, List.length_nil, List.nil_append, List.cons_append, List.append_nil, List.set_cons_zero, List.set_cons_succ, List.set, List.length, List.getElem?_cons_zero, List.getElem?_cons_succ, Nat.sub, Nat.reduceSub, Nat.reduceAdd, Nat.reduceLT, Nat.reduceLeDiff, List.getElem?_nil, Bool.false_eq_true, if_true, if_false, Bool.true_and, Bool.false_and, Bool.and_true, Bool.and_false, Bool.not_true, Bool.not_false, Bool.true_or, Bool.or_true, Bool.or_false, Bool.false_or, wipeE, isT_ss, if_pos hz, decide_eq_true h1, decide_eq_true h2, gIx_0 e g.2, cut26, gIn_s, e]
        rw [e] at N
        cases inT (sgn c) FS <;> simp only [runDef, sSeq, sNil, sRet, sIf, sSet, sSetL, sExt, sApp, sPar, sFreeze, sDrop, eC, eV, eP, e1, e2, l2, eL, aN, aC, aG, aGL, tOf, tAndJ, tOrJ, tNotJ, eAnd, eOr, eNot, eIf, eCh, tTru, gTru, eTup, lDisp, iOf, J.items?, iRg1, iRg2, cYes, bName, bTup, bCons, bNil, mN, mD, mO, setsS, eCall, gIsi, gIsi2, isT_tt, gLen, gI0, gLe_i, gGe_i, gGt_i, gLt_i, gAdd_i,  gListL, gTuple, eSl, oN, oS, List.map_cons, List.map_nil, List.map, List.replicate, List.length_cons, List.length_nil, List.nil_append, List.cons_append, List.append_nil, List.set_cons_zero, List.set_cons_succ, List.set, List.length, List.getElem?_cons_zero, List.getElem?_cons_succ, Nat.sub, Nat.reduceSub, Nat.reduceAdd, Nat.reduceLT, Nat.reduceLeDiff, List.getElem?_nil, Bool.false_eq_true, if_true, if_false, Bool.true_and, Bool.false_and, Bool.and_true, Bool.and_false, Bool.not_true, Bool.not_false, Bool.true_or, Bool.or_true, Bool.or_false, Bool.false_or, wipeE, C _ rfl, N, if_pos (Nat.zero_le sizeLine)]
      · simp only [runDef, sSeq, sNil, sRet, sIf, sSet, sSetL, sExt, sApp, sPar, sFreeze, sDrop, eC, eV, eP, e1, e2, l2, eL, aN, aC, aG, aGL, tOf, tAndJ, tOrJ, tNotJ, eAnd, eOr, eNot, eIf, eCh, tTru, gTru, eTup, lDisp, iOf, J.items?, iRg1, iRg2, cYes, bName, bTup, bCons, bNil, mN, mD, mO, setsS, eCall, gIsi, gIsi2, isT_tt, gLen, gI0, gLe_i, gGe_i, gGt_i, gLt_i, gAdd_i,  gListL, gTuple, eSl, oN, oS, List.map_cons, List.map_nil, List.map, List.replicate, List.length_cons, List.length_nil, List.nil_append, List.cons_append, List.append_nil, List.set_cons_zero, List.set_cons_succ, List.set, List.length, List.getElem?_cons_zero, List.getElem?_cons_succ, Nat.sub, Nat.reduceSub, Nat.reduceAdd, Nat.reduceLT, Nat.reduceLeDiff, List.getElem?_nil, Bool.false_eq_true, if_true, if_false, Bool.true_and, Bool.false_and, Bool.and_true, Bool.and_false, Bool.not_true, Bool.not_false, Bool.true_or, Bool.or_true, Bool.or_false, Bool.false_or, wipeE, isT_ss, if_pos hz, decide_eq_true h1, decide_eq_false h2]
    · simp only [runDef, sSeq, sNil, sRet, sIf, sSet, sSetL, sExt, sApp, sPar, sFreeze, sDrop, eC, eV, eP, e1, e2, l2, eL, aN, aC, aG, aGL, tOf, tAndJ, tOrJ, tNotJ, eAnd, eOr, eNot, eIf, eCh, tTru, gTru, eTup, lDisp, iOf, J.items?, iRg1, iRg2, cYes, bName, bTup, bCons, bNil, mN, mD, mO, setsS, eCall, gIsi, gIsi2, isT_tt, gLen, gI0, gLe_i, gGe_i, gGt_i, gLt_i, gAdd_i,  gListL, gTuple, eSl, oN, oS, List.map_cons, List.map_nil, List.map, List.replicate, List.length_cons, List.length_nil, List.nil_append, List.cons_append, List.append_nil, List.set_cons_zero, List.set_cons_succ, List.set, List.length, List.getElem?_cons_zero, List.getElem?_cons_succ, Nat.sub, Nat.reduceSub, Nat.reduceAdd, Nat.reduceLT, Nat.reduceLeDiff, List.getElem?_nil, Bool.false_eq_true, if_true, if_false, Bool.true_and, Bool.false_and, Bool.and_true, Bool.and_false, Bool.not_true, Bool.not_false, Bool.true_or, Bool.or_true, Bool.or_false, Bool.false_or, wipeE, isT_ss, if_pos hz, decide_eq_false h1]
  | _ => rfl
theorem vl_are_names (d : D) (g : good d = true) (dp : dpt d ≤ 64) (S : Store) : f__law_are_names [d] S = some (.bl (isNames d), S) := by
  cases d with
  | tup xs =>
    have gg := good_tup g
    have C : lComp [1] (iOf (eP 0)) (bName 1) (tNotJ (tTru (eCall f__law_is_name (aC (eV 1) aN)))) (eV 1) [.d (.tup xs), .un] S = some (xs.filter fun x => !isName x, S) :=
      lComp_filter (fun x => !isName x) rfl (by omega) fun x m => ⟨_, rfl, by simp only [runDef, sSeq, sNil, sRet, sIf, sSet, sSetL, sExt, sApp, sPar, sFreeze, sDrop, eC, eV, eP, e1, e2, l2, eL, aN, aC, aG, aGL, tOf, tAndJ, tOrJ, tNotJ, eAnd, eOr, eNot, eIf, eCh, tTru, gTru, eTup, lDisp, iOf, J.items?, iRg1, iRg2, cYes, bName, bTup, bCons, bNil, mN, mD, mO, setsS, eCall, gIsi, gIsi2, isT_tt, gLen, gI0, gLe_i, gGe_i, gGt_i, gLt_i, gAdd_i,  gListL, gTuple, eSl, oN, oS, List.map_cons, List.map_nil, List.map, List.replicate, List.length_cons, List.length_nil, List.nil_append, List.cons_append, List.append_nil, List.set_cons_zero, List.set_cons_succ, List.set, List.length, List.getElem?_cons_zero, List.getElem?_cons_succ, Nat.sub, Nat.reduceSub, Nat.reduceAdd, Nat.reduceLT, Nat.reduceLeDiff, List.getElem?_nil, Bool.false_eq_true, if_true, if_false, Bool.true_and, Bool.false_and, Bool.and_true, Bool.and_false, Bool.not_true, Bool.not_false, Bool.true_or, Bool.or_true, Bool.or_false, Bool.false_or, wipeE, vl_name x (gg.2 x m)], rfl⟩
    have N := gEq_nil (neg := false) (goods_filter (p := fun x => !isName x) gg.2) (dpts_filter (dpt_tup (n := 63) dp))
    rw [filter_no] at N
    unfold f__law_are_names g__law_are_names isNames
    simp only [runDef, sSeq, sNil, sRet, sIf, sSet, sSetL, sExt, sApp, sPar, sFreeze, sDrop, eC, eV, eP, e1, e2, l2, eL, aN, aC, aG, aGL, tOf, tAndJ, tOrJ, tNotJ, eAnd, eOr, eNot, eIf, eCh, tTru, gTru, eTup, lDisp, iOf, J.items?, iRg1, iRg2, cYes, bName, bTup, bCons, bNil, mN, mD, mO, setsS, eCall, gIsi, gIsi2, isT_tt, gLen, gI0, gLe_i, gGe_i, gGt_i, gLt_i, gAdd_i,  gListL, gTuple, eSl, oN, oS, List.map_cons, List.map_nil, List.map, List.replicate, List.length_cons, List.length_nil, List.nil_append, List.cons_append, List.append_nil, List.set_cons_zero, List.set_cons_succ, List.set, List.length, List.getElem?_cons_zero, List.getElem?_cons_succ, Nat.sub, Nat.reduceSub, Nat.reduceAdd, Nat.reduceLT, Nat.reduceLeDiff, List.getElem?_nil, Bool.false_eq_true, if_true, if_false, Bool.true_and, Bool.false_and, Bool.and_true, Bool.and_false, Bool.not_true, Bool.not_false, Bool.true_or, Bool.or_true, Bool.or_false, Bool.false_or, wipeE, C, N, if_pos (Nat.zero_le sizeLine)]
  | _ => rfl
theorem rg2_len {xs : List D} {ρ : J.Env} {S : Store} (h : ρ[0]? = some (.d (.tup xs))) (hz : xs.length ≤ 20000) : (iRg2 (aC (eC (.int 1)) (aC (aG gLen (aC (eP 0) aN)) aN))) ρ S = some (ranged 1 (xs.length - 1), S) := by
  have e : (aC (eC (.int 1)) (aC (aG gLen (aC (eP 0) aN)) aN)) ρ S = some ([.int 1, .int (xs.length : Int)], S) := by
    simp only [aC, eC, aG, eP, h, aN, gLen]
  unfold iRg2
  rw [e]
  show (if (-(2 ^ 62) ≤ (1 : Int) ∧ (1 : Int) < 2 ^ 62) ∧ -(2 ^ 62) ≤ (xs.length : Int) ∧ (xs.length : Int) < 2 ^ 62 then some (ranged 1 ((xs.length : Int) - 1).toNat, S) else none) = _
  rw [if_pos ⟨⟨by omega, by omega⟩, by omega, by omega⟩, show ((xs.length : Int) - 1).toNat = xs.length - 1 by omega]
def bk (xs : List D) : D → Bool | .int k => ltD (xs.getD (k.toNat - 1) .non) (xs.getD k.toNat .non) | _ => false
theorem ris_back (xs : List D) : (ranged 1 (xs.length - 1)).all (bk xs) = ris xs := by
  unfold ranged ris
  rw [List.all_map]
  refine congrArg (fun f => (List.range (xs.length - 1)).all f) (funext fun k => ?_)
  show ltD (xs.getD (((1 : Int) + (k : Int)).toNat - 1) .non) (xs.getD ((1 : Int) + (k : Int)).toNat .non) = _
  rw [show ((1 : Int) + (k : Int)).toNat = k + 1 by omega]
  rfl
theorem isSet_tup (xs : List D) : isSet (.tup xs) = (isNames (.tup xs) && ris xs) := rfl
theorem bk_at {xs : List D} {k : Nat} {z1 z2 : Str} (h1 : xs.getD k .non = .str z1) (h2 : xs.getD (k + 1) .non = .str z2) : bk xs (.int ((1 : Int) + (k : Int))) = decide (z1.cps.toList < z2.cps.toList) := by
  show ltD (xs.getD (((1 : Int) + (k : Int)).toNat - 1) .non) (xs.getD ((1 : Int) + (k : Int)).toNat .non) = _
  rw [show ((1 : Int) + (k : Int)).toNat = k + 1 by omega, h2, show k + 1 - 1 = k from rfl, h1]
  rfl
theorem back_comp {xs : List D} (hz : xs.length ≤ 20000) (q : xs.all isName = true) (S : Store) : lComp [1] (iRg2 (aC (eC (.int 1)) (aC (aG gLen (aC (eP 0) aN)) aN))) (bName 1) (tOf (e2 gGe (e2 gIx (eP 0) (e2 (gI0 fun i j => i - j) (eP 1) (eC (.int 1)))) (e2 gIx (eP 0) (eP 1)))) (eV 1) [.d (.tup xs), .un] S
          = some ((ranged 1 (xs.length - 1)).filter fun x => !bk xs x, S) := by
  have st : ∀ k, k < xs.length → ∃ z, xs.getD k .non = .str z := fun k h => name_str (List.all_eq_true.mp q _ (by
    rw [List.getD_eq_getElem?_getD, List.getElem?_eq_getElem h]; exact List.getElem_mem h))
  refine lComp_filter (fun x => !bk xs x) (rg2_len (xs := xs) (ρ := [.d (.tup xs), .un]) (S := S) rfl hz) (by unfold ranged; rw [List.length_map, List.length_range]; omega) fun x m => ?_
  unfold ranged at m
  obtain ⟨k, hk, rfl⟩ := List.mem_map.mp m
  have hk := List.mem_range.mp hk
  have u1 : (1 : Int) + (k : Int) - 1 = (k : Int) := by omega
  obtain ⟨z1, q1⟩ := st k (by omega)
  obtain ⟨z2, q2⟩ := st (k + 1) (by omega)
  have i1 : gIx (.tup xs) (.int (k : Int)) = some (xs.getD k .non) := atI_getD (by omega)
  have i2 : gIx (.tup xs) (.int ((1 : Int) + (k : Int))) = some (xs.getD (k + 1) .non) := by
    rw [show (1 : Int) + (k : Int) = ((k + 1 : Nat) : Int) by omega]; exact atI_getD (k := k + 1) (by omega)
  refine ⟨_, rfl, ?_, rfl⟩
  rw [bk_at q1 q2]
  simp only [runDef, sSeq, sNil, sRet, sIf, sSet, sSetL, sExt, sApp, sPar, sFreeze, sDrop, eC, eV, eP, e1, e2, l2, eL, aN, aC, aG, aGL, tOf, tAndJ, tOrJ, tNotJ, eAnd, eOr, eNot, eIf, eCh, tTru, gTru, eTup, lDisp, iOf, J.items?, iRg1, iRg2, cYes, bName, bTup, bCons, bNil, mN, mD, mO, setsS, eCall, gIsi, gIsi2, isT_tt, gLen, gI0, gLe_i, gGe_i, gGt_i, gLt_i, gAdd_i,  gListL, gTuple, eSl, oN, oS, List.map_cons, List.map_nil, List.map, List.replicate, List.length_cons, List.length_nil, List.nil_append, List.cons_append, List.append_nil, List.set_cons_zero, List.set_cons_succ, List.set, List.length, List.getElem?_cons_zero, List.getElem?_cons_succ, Nat.sub, Nat.reduceSub, Nat.reduceAdd, Nat.reduceLT, Nat.reduceLeDiff, List.getElem?_nil, Bool.false_eq_true, if_true, if_false, Bool.true_and, Bool.false_and, Bool.and_true, Bool.and_false, Bool.not_true, Bool.not_false, Bool.true_or, Bool.or_true, Bool.or_false, Bool.false_or, wipeE, u1, i1, i2, q1, q2]
  rfl
theorem e2_at {g : D → D → Option D} {f h : EX} {ρ : J.Env} {S S1 S2 : Store} {x y z : D} (h1 : f ρ S = some (x, S1)) (h2 : h ρ S1 = some (y, S2)) (h3 : g x y = some z) : e2 g f h ρ S = some (z, S2) := by
  unfold e2; rw [h1]; simp only; rw [h2]; simp only; rw [h3]
theorem eL_at {f : EL} {ρ : J.Env} {S S1 : Store} {xs : List D} (h1 : f ρ S = some (xs, S1)) : eL f ρ S = some (.lst xs, S1) := by
  unfold eL; rw [h1]
theorem nil_at {ρ : J.Env} {S : Store} : lDisp aN ρ S = some ([], S) := by
  show (if ([] : List D).length ≤ sizeLine then some (([] : List D), S) else none) = _
  exact if_pos (show ([] : List D).length ≤ sizeLine from Nat.zero_le _)
theorem seq_at {g1 g2 : GS} {ρ ρ1 : J.Env} {S S1 : Store} (h : g1 ρ S = some (.nx ρ1, S1)) : sSeq g1 g2 ρ S = g2 ρ1 S1 := by
  unfold sSeq; rw [h]
theorem ret_at {f : EX} {ρ : J.Env} {S S1 : Store} {x : D} (h : f ρ S = some (x, S1)) : sRet f ρ S = some (.rt x, S1) := by
  unfold sRet; rw [h]
theorem run_at {n : Nat} {g : GS} {ds : List D} {S S1 : Store} {x : D} (h : g (ds.map Slot.d ++ List.replicate (n - ds.length) .un) S = some (.rt x, S1)) : runDef n g ds S = some (x, S1) := by
  unfold runDef; rw [h]
theorem vl_set (d : D) (g : good d = true) (dp : dpt d ≤ 64) (S : Store) : f__law_is_set [d] S = some (.bl (isSet d), S) := by
  have N0 := vl_are_names d g dp S
  unfold f__law_is_set g__law_is_set
  cases q : isNames d with
  | false =>
    rw [show isSet d = false by
      cases d with
      | tup xs => rw [isSet_tup, q]; rfl
      | _ => rfl]
    simp only [runDef, sSeq, sNil, sRet, sIf, sSet, sSetL, sExt, sApp, sPar, sFreeze, sDrop, eC, eV, eP, e1, e2, l2, eL, aN, aC, aG, aGL, tOf, tAndJ, tOrJ, tNotJ, eAnd, eOr, eNot, eIf, eCh, tTru, gTru, eTup, lDisp, iOf, J.items?, iRg1, iRg2, cYes, bName, bTup, bCons, bNil, mN, mD, mO, setsS, eCall, gIsi, gIsi2, isT_tt, gLen, gI0, gLe_i, gGe_i, gGt_i, gLt_i, gAdd_i,  gListL, gTuple, eSl, oN, oS, List.map_cons, List.map_nil, List.map, List.replicate, List.length_cons, List.length_nil, List.nil_append, List.cons_append, List.append_nil, List.set_cons_zero, List.set_cons_succ, List.set, List.length, List.getElem?_cons_zero, List.getElem?_cons_succ, Nat.sub, Nat.reduceSub, Nat.reduceAdd, Nat.reduceLT, Nat.reduceLeDiff, List.getElem?_nil, Bool.false_eq_true, if_true, if_false, Bool.true_and, Bool.false_and, Bool.and_true, Bool.and_false, Bool.not_true, Bool.not_false, Bool.true_or, Bool.or_true, Bool.or_false, Bool.false_or, wipeE, N0, q]
  | true =>
    cases d with
    | tup xs =>
      have gg := good_tup g
      have C := back_comp gg.1 q S
      have N := gEq_nil (neg := false) (goods_filter (p := fun x => !bk xs x) (xs := ranged 1 (xs.length - 1)) fun x m => by
        unfold ranged at m
        obtain ⟨k, hk, rfl⟩ := List.mem_map.mp m
        rfl) (dpts_filter (n := 63) fun x m => by
        unfold ranged at m
        obtain ⟨k, hk, rfl⟩ := List.mem_map.mp m
        exact Nat.zero_le _)
      rw [filter_no, ris_back] at N
      rw [isSet_tup, q]
      have E : e2 (gEq false) (eL (lComp [1] (iRg2 (aC (eC (.int 1)) (aC (aG gLen (aC (eP 0) aN)) aN))) (bName 1) (tOf (e2 gGe (e2 gIx (eP 0) (e2 (gI0 fun i j => i - j) (eP 1) (eC (.int 1)))) (e2 gIx (eP 0) (eP 1)))) (eV 1))) (eL (lDisp aN)) [.d (.tup xs), .un] S = some (.bl (ris xs), S) := e2_at (eL_at C) (eL_at nil_at) N
      have T : sIf (tNotJ (tTru (eCall f__law_are_names (aC (eV 0) aN)))) (sRet (eC (.bl false))) sNil [.d (.tup xs), .un] S = some (.nx [.d (.tup xs), .un], S) := by simp only [runDef, sSeq, sNil, sRet, sIf, sSet, sSetL, sExt, sApp, sPar, sFreeze, sDrop, eC, eV, eP, e1, e2, l2, eL, aN, aC, aG, aGL, tOf, tAndJ, tOrJ, tNotJ, eAnd, eOr, eNot, eIf, eCh, tTru, gTru, eTup, lDisp, iOf, J.items?, iRg1, iRg2, cYes, bName, bTup, bCons, bNil, mN, mD, mO, setsS, eCall, gIsi, gIsi2, isT_tt, gLen, gI0, gLe_i, gGe_i, gGt_i, gLt_i, gAdd_i,  gListL, gTuple, eSl, oN, oS, List.map_cons, List.map_nil, List.map, List.replicate, List.length_cons, List.length_nil, List.nil_append, List.cons_append, List.append_nil, List.set_cons_zero, List.set_cons_succ, List.set, List.length, List.getElem?_cons_zero, List.getElem?_cons_succ, Nat.sub, Nat.reduceSub, Nat.reduceAdd, Nat.reduceLT, Nat.reduceLeDiff, List.getElem?_nil, Bool.false_eq_true, if_true, if_false, Bool.true_and, Bool.false_and, Bool.and_true, Bool.and_false, Bool.not_true, Bool.not_false, Bool.true_or, Bool.or_true, Bool.or_false, Bool.false_or, wipeE, N0, q]
      exact run_at ((seq_at T).trans (ret_at E))
    | _ => cases q
end K04

set_option maxHeartbeats 4000000
namespace K04
open PySem PySem.Spec PyProof.Rows L2 J
theorem cut2 (a b c d e : D) : gSl (.tup [a, b, c, d, e]) none (some 2) = some (.tup [a, b]) := rfl
theorem unit_names {d : D} (h : isUnit d = true) : isNames d = true := by
  unfold isUnit at h; split at h
  · rfl
  · cases h
theorem filt_comp {F : FN} {p : D → Bool} {ρ : J.Env} {S : Store} {j : Nat} {xs : List D} (l : EL) (hl : l ρ S = some (xs, S)) (hz : xs.length ≤ 20000) (hj : j < ρ.length) (h : ∀ x ∈ xs, F [x] S = some (.bl (p x), S)) :
    lComp [j] l (bName j) (tNotJ (tTru (eCall F (aC (eV j) aN)))) (eV j) ρ S = some (xs.filter fun x => !p x, S) :=
  lComp_filter _ hl (by omega) fun x m => by
    have e : (((wipeE ρ [j]).set j (.d x))[j]?) = some (.d x) := by
      unfold wipeE
      rw [List.getElem?_set_self (by simp [wipeE]; exact hj)]
    exact ⟨_, rfl, by simp only [tNotJ, tTru, eCall, aC, eV, e, aN, h x m, gTru], by simp only [eV, e]⟩
theorem isBook_four {a b c d : D} (t : (isT .tuple a && isT .tuple b && isT .tuple c && isT .tuple d) = false) : isBook (.tup [a, b, c, d]) = false := by
  unfold isBook; simp only [t, Bool.false_and]
theorem filter_len {α : Type} (p : α → Bool) (xs : List α) : (xs.filter fun x => !p x).length = 0 ↔ xs.all p = true := by
  rw [← filter_no, List.isEmpty_iff, List.length_eq_zero_iff]
theorem gEq_b (b : Bool) : gEq true (.bl b) (.bl b) = some (.bl false) := by cases b <;> rfl
theorem pairs_none {S : Store} {r0 : D} (ps : List Bool) (hz : ps.length ≤ 20000) (q : D) : lComp [4, 3] (iOf (eP 2)) (bTup 2 (bCons (bName 4) (bCons (bName 3) bNil))) (tOrJ (tNotJ (tTru (e1 (gIsi .bool) (eP 4)))) (tOf (e2 (gEq true) (eP 4) (eP 3)))) (eV 3) [.d q, .d r0, .own (ps.map fun b => .tup [.bl b, .bl b]), .un, .un] S = some ([], S) := by
  have go : ∀ (ps : List Bool) (ρ : J.Env), (∃ a b c d e, ρ = [a, b, c, d, e]) → lcGo (bTup 2 (bCons (bName 4) (bCons (bName 3) bNil))) (tOrJ (tNotJ (tTru (e1 (gIsi .bool) (eP 4)))) (tOf (e2 (gEq true) (eP 4) (eP 3)))) (eV 3) ρ (ps.map fun b => .tup [.bl b, .bl b]) S = some ([], S) := by
    intro ps
    induction ps with
    | nil => intro _ _; rfl
    | cons b r ih =>
      rintro _ ⟨a, b', c, d, e, rfl⟩
      rw [List.map_cons, lcGo]
      simp only [runDef, sSeq, sNil, sRet, sIf, sSet, sSetL, sExt, sApp, sPar, sFreeze, sDrop, eC, eV, eP, e1, e2, l2, eL, aN, aC, aG, aGL, tOf, tAndJ, tOrJ, tNotJ, eAnd, eOr, eNot, eIf, eCh, tTru, gTru, eTup, lDisp, iOf, J.items?, iRg1, iRg2, cYes, bName, bTup, bCons, bNil, mN, mD, mO, setsS, eCall, gIsi, gIsi2, isT_tt, gLen, gI0, gLe_i, gGe_i, gGt_i, gLt_i, gAdd_i,  gListL, gTuple, eSl, oN, oS, List.map_cons, List.map_nil, List.map, List.replicate, List.length_cons, List.length_nil, List.nil_append, List.cons_append, List.append_nil, List.set_cons_zero, List.set_cons_succ, List.set, List.length, List.getElem?_cons_zero, List.getElem?_cons_succ, Nat.sub, Nat.reduceSub, Nat.reduceAdd, Nat.reduceLT, Nat.reduceLeDiff, List.getElem?_nil, Bool.false_eq_true, if_true, if_false, Bool.true_and, Bool.false_and, Bool.and_true, Bool.and_false, Bool.not_true, Bool.not_false, Bool.true_or, Bool.or_true, Bool.or_false, Bool.false_or, wipeE, gEq_b, show isT .bool (.bl b) = true from rfl]
      exact ih _ ⟨_, _, _, _, _, rfl⟩
  unfold lComp
  simp only [iOf, eP, List.getElem?_cons_zero, List.getElem?_cons_succ, J.items?]
  rw [go ps (wipeE [.d q, .d r0, .own (ps.map fun b => .tup [.bl b, .bl b]), .un, .un] [4, 3]) ⟨_, _, _, _, _, rfl⟩]
  exact if_pos (Nat.zero_le _)
theorem sz {k : Nat} (h : k ≤ 16777216 := by decide) : k ≤ sizeLine := by rw [sizeLine_eq]; exact h
theorem sz' {k : Nat} (h : k < 16777216 := by decide) : k < sizeLine := by rw [sizeLine_eq]; exact h
theorem gEq_nn : gEq false (.lst []) (.lst []) = some (.bl true) := rfl
end K04

set_option maxHeartbeats 4000000
namespace K04
open PySem PySem.Spec PyProof.Rows L2 J
/-! ### the feed -/
def fob (cs : List Int) (a b c : Int) : Ob := [("cells", .lst (cs.map D.int)), ("next", .int a), ("left", .int b), ("count", .int c)]
theorem og1 (cs : List Int) (a b c : Int) : obGet (fob cs a b c) "cells" = some (.lst (cs.map D.int)) := rfl
theorem og2 (cs : List Int) (a b c : Int) : obGet (fob cs a b c) "next" = some (.int a) := rfl
theorem og3 (cs : List Int) (a b c : Int) : obGet (fob cs a b c) "left" = some (.int b) := rfl
theorem og4 (cs : List Int) (a b c : Int) : obGet (fob cs a b c) "count" = some (.int c) := rfl
theorem op2 (cs : List Int) (a b c x : Int) : obPut (fob cs a b c) "next" (.int x) = fob cs x b c := rfl
theorem op3 (cs : List Int) (a b c x : Int) : obPut (fob cs a b c) "left" (.int x) = fob cs a x c := rfl
theorem op4 (cs : List Int) (a b c x : Int) : obPut (fob cs a b c) "count" (.int x) = fob cs a b x := rfl
theorem ol (cs : List Int) (a b c : Int) : (fob cs a b c).length < sizeLine := by show 4 < sizeLine; exact sz'
def Fd (B : Int) (S : Store) : Prop := ∃ (cs : List Int) (a b c : Int) (R : Store), S = (fob cs a b c :: R) ∧ cs.length ≤ 63 ∧ 0 ≤ a ∧ 0 ≤ c ∧ c ≤ B
theorem Fd.mono {B B' : Int} {S : Store} (h : Fd B S) (l : B ≤ B') : Fd B' S := by
  obtain ⟨cs, a, b, c, R, e, h1, h2, h3, h4⟩ := h
  exact ⟨cs, a, b, c, R, e, h1, h2, h3, by omega⟩
theorem get_at {n : Nat} {S : Store} {o : Ob} {m : Str} {d : D} {ρ : J.Env} (h0 : ρ[0]? = some (.d (.obj n))) (h : S[n]? = some o) (e : obGet o m = some d) : eGet (eP 0) (eC (.str m)) ρ S = some (d, S) := by
  unfold eGet; simp only [eP, h0, eC, h, e]
theorem put_at {S R : Store} {o o' : Ob} {m : Str} {x : D} {fv : EX} {ρ : J.Env} (hf : fv ρ S = some (x, o :: R)) (h0 : ρ[0]? = some (.d (.obj 0))) (hl : o.length < sizeLine) (e : obPut o m x = o') : sPut (eP 0) (eC (.str m)) fv ρ S = some (.nx ρ, o' :: R) := by
  unfold sPut; simp only [hf, eP, h0, eC, List.getElem?_cons_zero, if_pos hl, e, List.set]
theorem mod_i {i j : Int} (h : 0 < j) : gI CPos (fun i j => i % j) (.int i) (.int j) = some (.int (i % j)) := if_pos h
theorem div_i {i j : Int} (h : 0 < j) (hj : j.natAbs.log2 < 9000) : gI CDivW (fun i j => i / j) (.int i) (.int j) = some (.int (i / j)) := if_pos ⟨h, hj⟩
theorem mul_i {i j : Int} (h : i.natAbs.log2 + j.natAbs.log2 < 1000000) : gI CMulW (fun i j => i * j) (.int i) (.int j) = some (.int (i * j)) := if_pos h
theorem log2_lt {i : Int} {k : Nat} (h : 0 ≤ i) (h2 : i < 2 ^ k) (hk : 0 < k) : i.natAbs.log2 < k := by
  by_cases z : i.natAbs = 0
  · rw [z]; simpa using hk
  · refine (Nat.log2_lt z).mpr ?_
    have e : (2 : Int) ^ k = ((2 ^ k : Nat) : Int) := by simp
    rw [e] at h2
    omega
theorem gInt_i (i : Int) : gInt [.int i] = some (.int i) := rfl
theorem ints_good (cs : List Int) : goods (cs.map D.int) = true := (goods_all _).mpr fun x m => by
  obtain ⟨i, _, rfl⟩ := List.mem_map.mp m; rfl
theorem ints_dpt (cs : List Int) : dpts (cs.map D.int) ≤ 63 := (dpts_le _).mpr fun x m => by
  obtain ⟨i, _, rfl⟩ := List.mem_map.mp m; exact Nat.zero_le _
theorem pow18 : gI CPow (fun i j => i ^ j.toNat) (.int 10) (.int 18) = some (.int (10 ^ 18)) := rfl
/-- the end of a draw: three times mixed -/
theorem mix_ok {R : Store} {cs : List Int} {a b c m cell : Int} (hm : 0 < m) (hc0 : 0 ≤ c) (hc : c ≤ 1000000000) (y2 y3 y4 : Slot) :
    ∃ v, 0 ≤ v ∧ v < m ∧ (sSeq (sSet (e2 (gI CPos fun i j => i % j) (aG gInt (aC (e2 gAdd (e2 gAdd (e2 (gI CPos fun i j => i % j) (aG gInt (aC (eP 5) aN)) (eC (.int 2147483629))) (e2 (gI CMulW fun i j => i * j) (eC (.int 48271)) (eGet (eP 0) (eC (.str ("count" : Str)))))) (eC (.int 11))) aN)) (eC (.int 2147483587))) (bName 6)) (sSeq (sSet (e2 (gI CPos fun i j => i % j) (aG gInt (aC (e2 gAdd (e2 gAdd (e2 (gI CMulW fun i j => i * j) (eP 6) (eP 6)) (e2 (gI CMulW fun i j => i * j) (eC (.int 69621)) (eGet (eP 0) (eC (.str ("count" : Str)))))) (eC (.int 5))) aN)) (eC (.int 2147483563))) (bName 6)) (sSeq (sSet (e2 (gI CPos fun i j => i % j) (aG gInt (aC (e2 gAdd (e2 (gI CMulW fun i j => i * j) (eP 6) (eP 6)) (e2 (gI CMulW fun i j => i * j) (eC (.int 40692)) (eP 6))) aN)) (eC (.int 2147483549))) (bName 6)) (sRet (e2 (gI CPos fun i j => i % j) (aG gInt (aC (e2 (gI CDivW fun i j => i / j) (eP 6) (eC (.int 64))) aN)) (eP 1))))))
      [.d (.obj 0), .d (.int m), y2, y3, y4, .d (.int cell), .un] (fob cs a b c :: R) = some (.rt (.int v), (fob cs a b c :: R)) := by
  have G : ∀ ρ : J.Env, ρ[0]? = some (.d (.obj 0)) → eGet (eP 0) (eC (.str ("count" : Str))) ρ (fob cs a b c :: R) = some (.int c, (fob cs a b c :: R)) := fun ρ h => get_at h rfl (og4 cs a b c)
  have lc : c.natAbs.log2 < 30 := log2_lt hc0 (by omega) (by decide)
  generalize hx1 : (cell % 2147483629 + 48271 * c + 11) % 2147483587 = x1
  have p1 : 0 ≤ x1 := by rw [← hx1]; exact Int.emod_nonneg _ (by decide)
  have q1 : x1 < 2147483587 := by rw [← hx1]; exact Int.emod_lt_of_pos _ (by decide)
  generalize hx2 : (x1 * x1 + 69621 * c + 5) % 2147483563 = x2
  have p2 : 0 ≤ x2 := by rw [← hx2]; exact Int.emod_nonneg _ (by decide)
  have q2 : x2 < 2147483563 := by rw [← hx2]; exact Int.emod_lt_of_pos _ (by decide)
  generalize hx3 : (x2 * x2 + 40692 * x2) % 2147483549 = x3
  have l1 : x1.natAbs.log2 < 31 := log2_lt p1 (by omega) (by decide)
  have l2 : x2.natAbs.log2 < 31 := log2_lt p2 (by omega) (by decide)
  have k1 : (48271 : Int).natAbs.log2 < 30 := by decide
  have k2 : (69621 : Int).natAbs.log2 < 30 := by decide
  have k3 : (40692 : Int).natAbs.log2 < 30 := by decide
  refine ⟨x3 / 64 % m, Int.emod_nonneg _ (by omega), Int.emod_lt_of_pos _ hm, ?_⟩
  simp only [runDef, sSeq, sNil, sRet, sIf, sSet, sSetL, sExt, sApp, sPar, sFreeze, sDrop, eC, eV, eP, e1, e2, l2, eL, aN, aC, aG, aGL, tOf, tAndJ, tOrJ, tNotJ, eAnd, eOr, eNot, eIf, eCh, tTru, gTru, eTup, lDisp, iOf, J.items?, iRg1, iRg2, cYes, bName, bTup, bCons, bNil, mN, mD, mO, setsS, eCall, gIsi, gIsi2, isT_tt, gLen, gI0, gLe_i, gGe_i, gGt_i, gLt_i, gAdd_i,  gListL, gTuple, eSl, oN, oS, List.map_cons, List.map_nil, List.map, List.replicate, List.length_cons, List.length_nil, List.nil_append, List.cons_append, List.append_nil, List.set_cons_zero, List.set_cons_succ, List.set, List.length, List.getElem?_cons_zero, List.getElem?_cons_succ, Nat.sub, Nat.reduceSub, Nat.reduceAdd, Nat.reduceLT, Nat.reduceLeDiff, List.getElem?_nil, Bool.false_eq_true, if_true, if_false, Bool.true_and, Bool.false_and, Bool.and_true, Bool.and_false, Bool.not_true, Bool.not_false, Bool.true_or, Bool.or_true, Bool.or_false, Bool.false_or, wipeE, G, gInt_i, mod_i (show (0 : Int) < 2147483629 by decide), mod_i (show (0 : Int) < 2147483587 by decide), mod_i (show (0 : Int) < 2147483563 by decide), mod_i (show (0 : Int) < 2147483549 by decide), mod_i hm, mul_i (show (48271 : Int).natAbs.log2 + c.natAbs.log2 < 1000000 by omega), mul_i (show (69621 : Int).natAbs.log2 + c.natAbs.log2 < 1000000 by omega), hx1, mul_i (show x1.natAbs.log2 + x1.natAbs.log2 < 1000000 by omega), hx2, mul_i (show x2.natAbs.log2 + x2.natAbs.log2 < 1000000 by omega), mul_i (show (40692 : Int).natAbs.log2 + x2.natAbs.log2 < 1000000 by omega), hx3, div_i (show (0 : Int) < 64 by decide) (show (64 : Int).natAbs.log2 < 9000 by decide)]
theorem set_at {f : EX} {i : Nat} {ρ : J.Env} {S S1 : Store} {x : D} (h : f ρ S = some (x, S1)) : sSet f (bName i) ρ S = some (.nx (ρ.set i (.d x)), S1) := by
  unfold sSet; rw [h]; rfl
theorem seq_rt {g1 g2 : GS} {ρ : J.Env} {S S1 : Store} {d : D} (h : g1 ρ S = some (.rt d, S1)) : sSeq g1 g2 ρ S = some (.rt d, S1) := by
  unfold sSeq; rw [h]
theorem draw_ok {B m : Int} {S : Store} (F : Fd B S) (hB : B < 1000000000) (hm : 0 < m) (hl : m.natAbs.log2 < 9000) : ∃ v S', f__law_draw [.obj 0, .int m] S = some (.int v, S') ∧ 0 ≤ v ∧ v < m ∧ Fd (B + 1) S' := by
  obtain ⟨cs, a, b, c, R, rfl, hcs, ha, hc0, hcB⟩ := F
  have M0 : ∀ i : Int, 0 ≤ i % m := fun i => Int.emod_nonneg _ (by omega)
  have M1 : ∀ i : Int, i % m < m := fun i => Int.emod_lt_of_pos _ hm
  have G2 : ∀ {a b c : Int} (ρ : J.Env), ρ[0]? = some (.d (.obj 0)) → eGet (eP 0) (eC (.str ("next" : Str))) ρ (fob cs a b c :: R) = some (.int a, (fob cs a b c :: R)) := fun ρ h => get_at h rfl (og2 ..)
  have G1 : ∀ {a b c : Int} (ρ : J.Env), ρ[0]? = some (.d (.obj 0)) → eGet (eP 0) (eC (.str ("cells" : Str))) ρ (fob cs a b c :: R) = some (.lst (cs.map D.int), (fob cs a b c :: R)) := fun ρ h => get_at h rfl (og1 ..)
  have G3 : ∀ {a b c : Int} (ρ : J.Env), ρ[0]? = some (.d (.obj 0)) → eGet (eP 0) (eC (.str ("left" : Str))) ρ (fob cs a b c :: R) = some (.int b, (fob cs a b c :: R)) := fun ρ h => get_at h rfl (og3 ..)
  have G4 : ∀ {a b c : Int} (ρ : J.Env), ρ[0]? = some (.d (.obj 0)) → eGet (eP 0) (eC (.str ("count" : Str))) ρ (fob cs a b c :: R) = some (.int c, (fob cs a b c :: R)) := fun ρ h => get_at h rfl (og4 ..)
  have U4 : ∀ ρ : J.Env, ρ[0]? = some (.d (.obj 0)) → sPut (eP 0) (eC (.str ("count" : Str))) (e2 gAdd (eGet (eP 0) (eC (.str ("count" : Str)))) (eC (.int 1))) ρ (fob cs a b c :: R) = some (.nx ρ, (fob cs a b (c + 1) :: R)) := fun ρ h =>
    put_at (e2_at (G4 ρ h) rfl (gAdd_i c 1)) h (ol ..) (op4 ..)
  have ML := mod_i (i := b) hm
  have DL := div_i (i := b) hm hl
  have U3 : ∀ ρ : J.Env, ρ[0]? = some (.d (.obj 0)) → ρ[1]? = some (.d (.int m)) → sPut (eP 0) (eC (.str ("left" : Str))) (e2 (gI CDivW fun i j => i / j) (eGet (eP 0) (eC (.str ("left" : Str)))) (eP 1)) ρ (fob cs a b (c + 1) :: R) = some (.nx ρ, (fob cs a (b / m) (c + 1) :: R)) := fun ρ h h1 =>
    put_at (e2_at (G3 ρ h) (by simp only [eP, h1]; rfl) DL) h (ol ..) (op3 ..)
  have U2 : ∀ ρ : J.Env, ρ[0]? = some (.d (.obj 0)) → ρ[4]? = some (.d (.int a)) → sPut (eP 0) (eC (.str ("next" : Str))) (e2 gAdd (eP 4) (eC (.int 1))) ρ (fob cs a b (c + 1) :: R) = some (.nx ρ, (fob cs (a + 1) b (c + 1) :: R)) := fun ρ h h1 =>
    put_at (e2_at (by simp only [eP, h1]; rfl) rfl (gAdd_i a 1)) h (ol ..) (op2 ..)
  unfold f__law_draw g__law_draw
  by_cases hb : 0 < b
  · refine ⟨b % m, (fob cs a (b / m) (c + 1) :: R), ?_, M0 b, M1 b, cs, a, b / m, c + 1, R, rfl, hcs, ha, by omega, by omega⟩
    simp only [runDef, sSeq, sNil, sRet, sIf, sSet, sSetL, sExt, sApp, sPar, sFreeze, sDrop, eC, eV, eP, e1, e2, l2, eL, aN, aC, aG, aGL, tOf, tAndJ, tOrJ, tNotJ, eAnd, eOr, eNot, eIf, eCh, tTru, gTru, eTup, lDisp, iOf, J.items?, iRg1, iRg2, cYes, bName, bTup, bCons, bNil, mN, mD, mO, setsS, eCall, gIsi, gIsi2, isT_tt, gLen, gI0, gLe_i, gGe_i, gGt_i, gLt_i, gAdd_i,  gListL, gTuple, eSl, oN, oS, List.map_cons, List.map_nil, List.map, List.replicate, List.length_cons, List.length_nil, List.nil_append, List.cons_append, List.append_nil, List.set_cons_zero, List.set_cons_succ, List.set, List.length, List.getElem?_cons_zero, List.getElem?_cons_succ, Nat.sub, Nat.reduceSub, Nat.reduceAdd, Nat.reduceLT, Nat.reduceLeDiff, List.getElem?_nil, Bool.false_eq_true, if_true, if_false, Bool.true_and, Bool.false_and, Bool.and_true, Bool.and_false, Bool.not_true, Bool.not_false, Bool.true_or, Bool.or_true, Bool.or_false, Bool.false_or, wipeE, U4, G3, decide_eq_true hb, gInt_i, ML, U3]
  · have N := gEq_nil (neg := true) (ints_good cs) (ints_dpt cs)
    -- the cell
    have cell : ∃ x, eIf (tOf (e2 (gEq true) (eP 3) (eL (lDisp aN)))) (e2 gIx (eP 3) (e2 (gI CPos fun i j => i % j) (aG gInt (aC (eP 4) aN)) (aG gLen (aC (eP 3) aN)))) (eC (.int 31847)) [.d (.obj 0), .d (.int m), .un, .d (.lst (cs.map D.int)), .d (.int a), .un, .un] (fob cs (a + 1) b (c + 1) :: R) = some (.int x, (fob cs (a + 1) b (c + 1) :: R)) := by
      cases cs with
      | nil =>
        simp only [List.map_nil, List.isEmpty, Bool.not_true, if_true] at N
        exact ⟨31847, by simp only [runDef, sSeq, sNil, sRet, sIf, sSet, sSetL, sExt, sApp, sPar, sFreeze, sDrop, eC, eV, eP, e1, e2, l2, eL, aN, aC, aG, aGL, tOf, tAndJ, tOrJ, tNotJ, eAnd, eOr, eNot, eIf, eCh, tTru, gTru, eTup, lDisp, iOf, J.items?, iRg1, iRg2, cYes, bName, bTup, bCons, bNil, mN, mD, mO, setsS, eCall, gIsi, gIsi2, isT_tt, gLen, gI0, gLe_i, gGe_i, gGt_i, gLt_i, gAdd_i,  gListL, gTuple, eSl, oN, oS, List.map_cons, List.map_nil, List.map, List.replicate, List.length_cons, List.length_nil, List.nil_append, List.cons_append, List.append_nil, List.set_cons_zero, List.set_cons_succ, List.set, List.length, List.getElem?_cons_zero, List.getElem?_cons_succ, Nat.sub, Nat.reduceSub, Nat.reduceAdd, Nat.reduceLT, Nat.reduceLeDiff, List.getElem?_nil, Bool.false_eq_true, if_true, if_false, Bool.true_and, Bool.false_and, Bool.and_true, Bool.and_false, Bool.not_true, Bool.not_false, Bool.true_or, Bool.or_true, Bool.or_false, Bool.false_or, wipeE, N, if_pos (sz (k := 0))]⟩
      | cons z r =>
        have hn : (0 : Int) < ((r.map D.int).length + 1 : Nat) := by omega
        have h0 := Int.emod_nonneg a (show (((r.map D.int).length + 1 : Nat) : Int) ≠ 0 by omega)
        have h1 := Int.emod_lt_of_pos a hn
        have I : ∃ x, gIx (.lst (.int z :: r.map D.int)) (.int (a % (((r.map D.int).length + 1 : Nat) : Int))) = some (.int x) := by
          obtain ⟨k, hk⟩ : ∃ k : Nat, a % (((r.map D.int).length + 1 : Nat) : Int) = (k : Int) := ⟨_, (Int.toNat_of_nonneg h0).symm⟩
          rw [hk] at h1 ⊢
          have hk2 : k < (z :: r).length := by rw [List.length_cons]; rw [List.length_map] at h1; omega
          refine ⟨(z :: r)[k], ?_⟩
          show atI ((z :: r).map D.int) (k : Int) = _
          rw [atI_nat, List.getElem?_map, List.getElem?_eq_getElem hk2]; rfl
        obtain ⟨x, I⟩ := I
        simp only [List.map_cons, List.isEmpty, Bool.not_false, if_true] at N
        exact ⟨x, by simp only [runDef, sSeq, sNil, sRet, sIf, sSet, sSetL, sExt, sApp, sPar, sFreeze, sDrop, eC, eV, eP, e1, e2, l2, eL, aN, aC, aG, aGL, tOf, tAndJ, tOrJ, tNotJ, eAnd, eOr, eNot, eIf, eCh, tTru, gTru, eTup, lDisp, iOf, J.items?, iRg1, iRg2, cYes, bName, bTup, bCons, bNil, mN, mD, mO, setsS, eCall, gIsi, gIsi2, isT_tt, gLen, gI0, gLe_i, gGe_i, gGt_i, gLt_i, gAdd_i,  gListL, gTuple, eSl, oN, oS, List.map_cons, List.map_nil, List.map, List.replicate, List.length_cons, List.length_nil, List.nil_append, List.cons_append, List.append_nil, List.set_cons_zero, List.set_cons_succ, List.set, List.length, List.getElem?_cons_zero, List.getElem?_cons_succ, Nat.sub, Nat.reduceSub, Nat.reduceAdd, Nat.reduceLT, Nat.reduceLeDiff, List.getElem?_nil, Bool.false_eq_true, if_true, if_false, Bool.true_and, Bool.false_and, Bool.and_true, Bool.and_false, Bool.not_true, Bool.not_false, Bool.true_or, Bool.or_true, Bool.or_false, Bool.false_or, wipeE, N, if_pos (sz (k := 0)), gInt_i, mod_i hn, I]⟩
    obtain ⟨x, cell⟩ := cell
    have T1 := U4 [.d (.obj 0), .d (.int m), .un, .un, .un, .un, .un] rfl
    have T2 : ∀ g, sIf (tOf (e2 gGt (eGet (eP 0) (eC (.str ("left" : Str)))) (eC (.int 0)))) g sNil [.d (.obj 0), .d (.int m), .un, .un, .un, .un, .un] (fob cs a b (c + 1) :: R) = some (.nx [.d (.obj 0), .d (.int m), .un, .un, .un, .un, .un], (fob cs a b (c + 1) :: R)) := fun g => by
      simp only [runDef, sSeq, sNil, sRet, sIf, sSet, sSetL, sExt, sApp, sPar, sFreeze, sDrop, eC, eV, eP, e1, e2, l2, eL, aN, aC, aG, aGL, tOf, tAndJ, tOrJ, tNotJ, eAnd, eOr, eNot, eIf, eCh, tTru, gTru, eTup, lDisp, iOf, J.items?, iRg1, iRg2, cYes, bName, bTup, bCons, bNil, mN, mD, mO, setsS, eCall, gIsi, gIsi2, isT_tt, gLen, gI0, gLe_i, gGe_i, gGt_i, gLt_i, gAdd_i,  gListL, gTuple, eSl, oN, oS, List.map_cons, List.map_nil, List.map, List.replicate, List.length_cons, List.length_nil, List.nil_append, List.cons_append, List.append_nil, List.set_cons_zero, List.set_cons_succ, List.set, List.length, List.getElem?_cons_zero, List.getElem?_cons_succ, Nat.sub, Nat.reduceSub, Nat.reduceAdd, Nat.reduceLT, Nat.reduceLeDiff, List.getElem?_nil, Bool.false_eq_true, if_true, if_false, Bool.true_and, Bool.false_and, Bool.and_true, Bool.and_false, Bool.not_true, Bool.not_false, Bool.true_or, Bool.or_true, Bool.or_false, Bool.false_or, wipeE, G3, decide_eq_false hb]
    have T3 : (sPar [3, 4] (mD (eGet (eP 0) (eC (.str ("cells" : Str)))) (mD (eGet (eP 0) (eC (.str ("next" : Str)))) mN))) [.d (.obj 0), .d (.int m), .un, .un, .un, .un, .un] (fob cs a b (c + 1) :: R) = some (.nx [.d (.obj 0), .d (.int m), .un, .d (.lst (cs.map D.int)), .d (.int a), .un, .un], (fob cs a b (c + 1) :: R)) := by
      simp only [runDef, sSeq, sNil, sRet, sIf, sSet, sSetL, sExt, sApp, sPar, sFreeze, sDrop, eC, eV, eP, e1, e2, l2, eL, aN, aC, aG, aGL, tOf, tAndJ, tOrJ, tNotJ, eAnd, eOr, eNot, eIf, eCh, tTru, gTru, eTup, lDisp, iOf, J.items?, iRg1, iRg2, cYes, bName, bTup, bCons, bNil, mN, mD, mO, setsS, eCall, gIsi, gIsi2, isT_tt, gLen, gI0, gLe_i, gGe_i, gGt_i, gLt_i, gAdd_i,  gListL, gTuple, eSl, oN, oS, List.map_cons, List.map_nil, List.map, List.replicate, List.length_cons, List.length_nil, List.nil_append, List.cons_append, List.append_nil, List.set_cons_zero, List.set_cons_succ, List.set, List.length, List.getElem?_cons_zero, List.getElem?_cons_succ, Nat.sub, Nat.reduceSub, Nat.reduceAdd, Nat.reduceLT, Nat.reduceLeDiff, List.getElem?_nil, Bool.false_eq_true, if_true, if_false, Bool.true_and, Bool.false_and, Bool.and_true, Bool.and_false, Bool.not_true, Bool.not_false, Bool.true_or, Bool.or_true, Bool.or_false, Bool.false_or, wipeE, G1, G2]
    have T4 := U2 [.d (.obj 0), .d (.int m), .un, .d (.lst (cs.map D.int)), .d (.int a), .un, .un] rfl rfl
    have T5 := set_at (i := 5) cell
    have way : ∀ g0 g, (∃ v S', g [.d (.obj 0), .d (.int m), .un, .d (.lst (cs.map D.int)), .d (.int a), .d (.int x), .un] (fob cs (a + 1) b (c + 1) :: R) = some (.rt (.int v), S') ∧ 0 ≤ v ∧ v < m ∧ Fd (B + 1) S') → ∃ v S', runDef 7 (sSeq (sPut (eP 0) (eC (.str ("count" : Str))) (e2 gAdd (eGet (eP 0) (eC (.str ("count" : Str)))) (eC (.int 1)))) (sSeq (sIf (tOf (e2 gGt (eGet (eP 0) (eC (.str ("left" : Str)))) (eC (.int 0)))) g0 sNil) (sSeq _ (sSeq _ (sSeq _ g))))) [.obj 0, .int m] (fob cs a b c :: R) = some (.int v, S') ∧ 0 ≤ v ∧ v < m ∧ Fd (B + 1) S' := fun g0 g ⟨v, S', e, r⟩ =>
      ⟨v, S', run_at ((seq_at T1).trans ((seq_at (T2 g0)).trans ((seq_at T3).trans ((seq_at T4).trans ((seq_at T5).trans e))))), r⟩
    refine way _ _ ?_
    by_cases hx : (10 : Int) ^ 18 ≤ x ∧ a < ((cs.map D.int).length : Int)
    · refine ⟨x % m, (fob cs (a + 1) (x / m) (c + 1) :: R), ?_, M0 x, M1 x, cs, a + 1, x / m, c + 1, R, rfl, hcs, by omega, by omega, by omega⟩
      have U3' : ∀ ρ : J.Env, ρ[0]? = some (.d (.obj 0)) → ρ[1]? = some (.d (.int m)) → ρ[5]? = some (.d (.int x)) → sPut (eP 0) (eC (.str ("left" : Str))) (e2 (gI CDivW fun i j => i / j) (eP 5) (eP 1)) ρ (fob cs (a + 1) b (c + 1) :: R) = some (.nx ρ, (fob cs (a + 1) (x / m) (c + 1) :: R)) := fun ρ h h1 h5 =>
        put_at (e2_at (by simp only [eP, h5]; rfl) (by simp only [eP, h1]; rfl) (div_i (i := x) hm hl)) h (ol ..) (op3 ..)
      refine seq_rt ?_
      simp only [runDef, sSeq, sNil, sRet, sIf, sSet, sSetL, sExt, sApp, sPar, sFreeze, sDrop, eC, eV, eP, e1, e2, l2, eL, aN, aC, aG, aGL, tOf, tAndJ, tOrJ, tNotJ, eAnd, eOr, eNot, eIf, eCh, tTru, gTru, eTup, lDisp, iOf, J.items?, iRg1, iRg2, cYes, bName, bTup, bCons, bNil, mN, mD, mO, setsS, eCall, gIsi, gIsi2, isT_tt, gLen, gI0, gLe_i, gGe_i, gGt_i, gLt_i, gAdd_i,  gListL, gTuple, eSl, oN, oS, List.map_cons, List.map_nil, List.map, List.replicate, List.length_cons, List.length_nil, List.nil_append, List.cons_append, List.append_nil, List.set_cons_zero, List.set_cons_succ, List.set, List.length, List.getElem?_cons_zero, List.getElem?_cons_succ, Nat.sub, Nat.reduceSub, Nat.reduceAdd, Nat.reduceLT, Nat.reduceLeDiff, List.getElem?_nil, Bool.false_eq_true, if_true, if_false, Bool.true_and, Bool.false_and, Bool.and_true, Bool.and_false, Bool.not_true, Bool.not_false, Bool.true_or, Bool.or_true, Bool.or_false, Bool.false_or, wipeE, pow18, decide_eq_true hx.1, decide_eq_true hx.2, U3', gInt_i, mod_i hm]
    · obtain ⟨v, v0, v1, e⟩ := mix_ok (R := R) (cs := cs) (a := a + 1) (b := b) (c := c + 1) (m := m) (cell := x) hm (by omega) (by omega) .un (.d (.lst (cs.map D.int))) (.d (.int a))
      refine ⟨v, (fob cs (a + 1) b (c + 1) :: R), (seq_at ?_).trans e, v0, v1, cs, a + 1, b, c + 1, R, rfl, hcs, by omega, by omega, by omega⟩
      by_cases h1 : (10 : Int) ^ 18 ≤ x
      · have h2 : ¬ a < ((cs.map D.int).length : Int) := fun z => hx ⟨h1, z⟩
        simp only [runDef, sSeq, sNil, sRet, sIf, sSet, sSetL, sExt, sApp, sPar, sFreeze, sDrop, eC, eV, eP, e1, e2, l2, eL, aN, aC, aG, aGL, tOf, tAndJ, tOrJ, tNotJ, eAnd, eOr, eNot, eIf, eCh, tTru, gTru, eTup, lDisp, iOf, J.items?, iRg1, iRg2, cYes, bName, bTup, bCons, bNil, mN, mD, mO, setsS, eCall, gIsi, gIsi2, isT_tt, gLen, gI0, gLe_i, gGe_i, gGt_i, gLt_i, gAdd_i,  gListL, gTuple, eSl, oN, oS, List.map_cons, List.map_nil, List.map, List.replicate, List.length_cons, List.length_nil, List.nil_append, List.cons_append, List.append_nil, List.set_cons_zero, List.set_cons_succ, List.set, List.length, List.getElem?_cons_zero, List.getElem?_cons_succ, Nat.sub, Nat.reduceSub, Nat.reduceAdd, Nat.reduceLT, Nat.reduceLeDiff, List.getElem?_nil, Bool.false_eq_true, if_true, if_false, Bool.true_and, Bool.false_and, Bool.and_true, Bool.and_false, Bool.not_true, Bool.not_false, Bool.true_or, Bool.or_true, Bool.or_false, Bool.false_or, wipeE, pow18, decide_eq_true h1, decide_eq_false h2]
      · simp only [runDef, sSeq, sNil, sRet, sIf, sSet, sSetL, sExt, sApp, sPar, sFreeze, sDrop, eC, eV, eP, e1, e2, l2, eL, aN, aC, aG, aGL, tOf, tAndJ, tOrJ, tNotJ, eAnd, eOr, eNot, eIf, eCh, tTru, gTru, eTup, lDisp, iOf, J.items?, iRg1, iRg2, cYes, bName, bTup, bCons, bNil, mN, mD, mO, setsS, eCall, gIsi, gIsi2, isT_tt, gLen, gI0, gLe_i, gGe_i, gGt_i, gLt_i, gAdd_i,  gListL, gTuple, eSl, oN, oS, List.map_cons, List.map_nil, List.map, List.replicate, List.length_cons, List.length_nil, List.nil_append, List.cons_append, List.append_nil, List.set_cons_zero, List.set_cons_succ, List.set, List.length, List.getElem?_cons_zero, List.getElem?_cons_succ, Nat.sub, Nat.reduceSub, Nat.reduceAdd, Nat.reduceLT, Nat.reduceLeDiff, List.getElem?_nil, Bool.false_eq_true, if_true, if_false, Bool.true_and, Bool.false_and, Bool.and_true, Bool.and_false, Bool.not_true, Bool.not_false, Bool.true_or, Bool.or_true, Bool.or_false, Bool.false_or, wipeE, pow18, decide_eq_false h1]
end K04

set_option maxHeartbeats 4000000
namespace K04
open PySem PySem.Spec PyProof.Rows L2 J
/-! ### texts -/
def okS (n : Nat) (z : Str) : Prop := (∀ c ∈ z.cps.toList, c < 1114112) ∧ z.length ≤ n
theorem okS.mono {n m : Nat} {z : Str} (h : okS n z) (l : n ≤ m) : okS m z := ⟨h.1, Nat.le_trans h.2 l⟩
theorem okS.app {n m : Nat} {x y : Str} (h : okS n x) (k : okS m y) : okS (n + m) (x ++ y) := by
  have e : (x ++ y).cps.toList = x.cps.toList ++ y.cps.toList := by
    show (x.cps ++ y.cps).toList = _
    simp
  refine ⟨fun c m => ?_, ?_⟩
  · rw [e] at m
    exact (List.mem_append.mp m).elim (h.1 c) (k.1 c)
  · rw [len_cps, e, List.length_append, ← len_cps, ← len_cps]
    exact Nat.add_le_add h.2 k.2
theorem okS.cut {n : Nat} {z : Str} (h : okS n z) (l u : Option Int) : okS n (cutS z l u) := by
  unfold cutS
  refine ⟨fun c m => ?_, ?_⟩
  · exact h.1 c (List.mem_of_mem_drop (List.mem_of_mem_take (by simpa using m)))
  · rw [len_cps]
    have e1 : z.length ≤ n := h.2
    rw [len_cps] at e1
    simp only [List.length_take, List.length_drop]
    omega
theorem okS.sgn {c : Nat} (h : c < 1114112) : okS 1 (sgn c) := ⟨fun x m => by
  have e : x = c := by simpa [K04.sgn] using m
  rw [e]; exact h, Nat.le_refl _⟩
theorem okS.good {n : Nat} {z : Str} (h : okS n z) (l : n ≤ 1000) : good (.str z) = true := by
  rw [J.good, Bool.and_eq_true, decide_eq_true_eq]
  refine ⟨Array.all_eq_true'.mpr fun c m => ?_, Nat.le_trans h.2 (Nat.le_trans l (by decide))⟩
  exact decide_eq_true (h.1 c (by simpa using m))
theorem gAdd_s {x y : Str} (h : x.length + y.length ≤ 16777216) : gAdd (.str x) (.str y) = some (.str (x ++ y)) := if_pos (by rw [sizeLine_eq]; exact h)
theorem gSl_s {z : Str} (l u : Option Int) (h : z.length ≤ 1000) : gSl (.str z) l u = some (.str (cutS z l u)) := if_pos (by rw [sizeLine_eq]; omega)
/-! ### a comprehension that draws -/
theorem lcGo_inv {P : D → Prop} {bd : BD} {cond : ET} {elt : EX} {ρ : J.Env} {k N : Int} (hk : 0 ≤ k) : ∀ (xs : List D) (B : Int) (S : Store), Fd B S → B + k * xs.length ≤ N →
    (∀ x ∈ xs, ∀ (B : Int) (S : Store), Fd B S → B + k ≤ N → ∃ ρ1, bd x ρ = some ρ1 ∧ ∃ b S1, cond ρ1 S = some (b, S1) ∧ Fd (B + k) S1 ∧ (b = true → ∃ y S2, elt ρ1 S1 = some (y, S2) ∧ P y ∧ Fd (B + k) S2)) →
    ∃ ys S', lcGo bd cond elt ρ xs S = some (ys, S') ∧ (∀ y ∈ ys, P y) ∧ ys.length ≤ xs.length ∧ Fd (B + k * xs.length) S'
  | [], B, S, F, hN, h => ⟨[], S, rfl, fun y m => by simp at m, Nat.le_refl _, F.mono (by simp)⟩
  | x :: r, B, S, F, hN, h => by
    have e : k * ((x :: r).length : Int) = k + k * (r.length : Int) := by
      rw [List.length_cons]
      have : (((r.length + 1 : Nat)) : Int) = (r.length : Int) + 1 := by omega
      rw [this, Int.mul_add, Int.mul_one]; omega
    have pos : 0 ≤ k * (r.length : Int) := Int.mul_nonneg hk (by omega)
    obtain ⟨ρ1, h1, b, S1, h2, F1, h3⟩ := h x List.mem_cons_self B S F (by omega)
    rw [lcGo, h1]
    cases b with
    | false =>
      obtain ⟨ys, S', g1, g2, g3, g4⟩ := lcGo_inv hk r (B + k) S1 F1 (by omega) fun y m => h y (List.mem_cons_of_mem _ m)
      simp only [h2]
      exact ⟨ys, S', g1, g2, by rw [List.length_cons]; omega, g4.mono (by omega)⟩
    | true =>
      obtain ⟨y, S2, h4, py, F2⟩ := h3 rfl
      obtain ⟨ys, S', g1, g2, g3, g4⟩ := lcGo_inv hk r (B + k) S2 F2 (by omega) fun y m => h y (List.mem_cons_of_mem _ m)
      simp only [h2, h4, g1]
      exact ⟨y :: ys, S', rfl, fun z m => (List.mem_cons.mp m).elim (fun e => by rw [e]; exact py) (g2 z), by rw [List.length_cons, List.length_cons]; omega, g4.mono (by omega)⟩
theorem lComp_inv {P : D → Prop} {vs : List Nat} {l : EL} {bd : BD} {cond : ET} {elt : EX} {ρ : J.Env} {S S0 : Store} {xs : List D} {k N B : Int} (hk : 0 ≤ k) (hl : l ρ S0 = some (xs, S)) (hz : xs.length ≤ 5000) (F : Fd B S) (hN : B + k * xs.length ≤ N)
    (h : ∀ x ∈ xs, ∀ (B : Int) (S : Store), Fd B S → B + k ≤ N → ∃ ρ1, bd x (wipeE ρ vs) = some ρ1 ∧ ∃ b S1, cond ρ1 S = some (b, S1) ∧ Fd (B + k) S1 ∧ (b = true → ∃ y S2, elt ρ1 S1 = some (y, S2) ∧ P y ∧ Fd (B + k) S2)) :
    ∃ ys S', lComp vs l bd cond elt ρ S0 = some (ys, S') ∧ (∀ y ∈ ys, P y) ∧ ys.length ≤ xs.length ∧ Fd (B + k * xs.length) S' := by
  obtain ⟨ys, S', g1, g2, g3, g4⟩ := lcGo_inv hk xs B S F hN h
  refine ⟨ys, S', ?_, g2, g3, g4⟩
  unfold lComp
  rw [hl]; simp only; rw [g1]
  exact if_pos (by rw [sizeLine_eq]; omega)
theorem log_small {m : Int} (h0 : 0 ≤ m) (h : m < 2 ^ 63) : m.natAbs.log2 < 9000 := Nat.lt_trans (log2_lt h0 h (by decide)) (by decide)
theorem pick_l {B : Int} {S : Store} {xs : List D} (F : Fd B S) (hB : B < 1000000000) (hn : xs ≠ []) (hz : xs.length ≤ 10000000) : ∃ x S', f__law_pick [.obj 0, .lst xs] S = some (x, S') ∧ x ∈ xs ∧ Fd (B + 1) S' := by
  have pos : (0 : Int) < (xs.length : Int) := by
    have := List.length_pos_iff.mpr hn; omega
  obtain ⟨v, S', e, v0, v1, F'⟩ := draw_ok F hB pos (log_small (by omega) (by omega))
  obtain ⟨k, rfl⟩ : ∃ k : Nat, v = (k : Int) := ⟨_, (Int.toNat_of_nonneg v0).symm⟩
  have hk : k < xs.length := by omega
  refine ⟨xs[k], S', ?_, List.getElem_mem hk, F'⟩
  have I : gIx (.lst xs) (.int (k : Int)) = some xs[k] := by
    show atI xs (k : Int) = _
    rw [atI_nat, List.getElem?_eq_getElem hk]
  unfold f__law_pick g__law_pick
  simp only [runDef, sSeq, sNil, sRet, sIf, sSet, sSetL, sExt, sApp, sPar, sFreeze, sDrop, eC, eV, eP, e1, e2, l2, eL, aN, aC, aG, aGL, tOf, tAndJ, tOrJ, tNotJ, eAnd, eOr, eNot, eIf, eCh, tTru, gTru, eTup, lDisp, iOf, J.items?, iRg1, iRg2, cYes, bName, bTup, bCons, bNil, mN, mD, mO, setsS, eCall, gIsi, gIsi2, isT_tt, gLen, gI0, gLe_i, gGe_i, gGt_i, gLt_i, gAdd_i,  gListL, gTuple, eSl, oN, oS, List.map_cons, List.map_nil, List.map, List.replicate, List.length_cons, List.length_nil, List.nil_append, List.cons_append, List.append_nil, List.set_cons_zero, List.set_cons_succ, List.set, List.length, List.getElem?_cons_zero, List.getElem?_cons_succ, Nat.sub, Nat.reduceSub, Nat.reduceAdd, Nat.reduceLT, Nat.reduceLeDiff, List.getElem?_nil, Bool.false_eq_true, if_true, if_false, Bool.true_and, Bool.false_and, Bool.and_true, Bool.and_false, Bool.not_true, Bool.not_false, Bool.true_or, Bool.or_true, Bool.or_false, Bool.false_or, wipeE, e, I]
theorem pick_t {B : Int} {S : Store} {xs : List D} (F : Fd B S) (hB : B < 1000000000) (hn : xs ≠ []) (hz : xs.length ≤ 5000) : ∃ x S', f__law_pick [.obj 0, .tup xs] S = some (x, S') ∧ x ∈ xs ∧ Fd (B + 1) S' := by
  have pos : (0 : Int) < (xs.length : Int) := by
    have := List.length_pos_iff.mpr hn; omega
  obtain ⟨v, S', e, v0, v1, F'⟩ := draw_ok F hB pos (log_small (by omega) (by omega))
  obtain ⟨k, rfl⟩ : ∃ k : Nat, v = (k : Int) := ⟨_, (Int.toNat_of_nonneg v0).symm⟩
  have hk : k < xs.length := by omega
  refine ⟨xs[k], S', ?_, List.getElem_mem hk, F'⟩
  have I : gIx (.tup xs) (.int (k : Int)) = some xs[k] := by
    show atI xs (k : Int) = _
    rw [atI_nat, List.getElem?_eq_getElem hk]
  unfold f__law_pick g__law_pick
  simp only [runDef, sSeq, sNil, sRet, sIf, sSet, sSetL, sExt, sApp, sPar, sFreeze, sDrop, eC, eV, eP, e1, e2, l2, eL, aN, aC, aG, aGL, tOf, tAndJ, tOrJ, tNotJ, eAnd, eOr, eNot, eIf, eCh, tTru, gTru, eTup, lDisp, iOf, J.items?, iRg1, iRg2, cYes, bName, bTup, bCons, bNil, mN, mD, mO, setsS, eCall, gIsi, gIsi2, isT_tt, gLen, gI0, gLe_i, gGe_i, gGt_i, gLt_i, gAdd_i,  gListL, gTuple, eSl, oN, oS, List.map_cons, List.map_nil, List.map, List.replicate, List.length_cons, List.length_nil, List.nil_append, List.cons_append, List.append_nil, List.set_cons_zero, List.set_cons_succ, List.set, List.length, List.getElem?_cons_zero, List.getElem?_cons_succ, Nat.sub, Nat.reduceSub, Nat.reduceAdd, Nat.reduceLT, Nat.reduceLeDiff, List.getElem?_nil, Bool.false_eq_true, if_true, if_false, Bool.true_and, Bool.false_and, Bool.and_true, Bool.and_false, Bool.not_true, Bool.not_false, Bool.true_or, Bool.or_true, Bool.or_false, Bool.false_or, wipeE, e, I]
theorem ix_s {z : Str} {n : Nat} {v : Int} (h : okS n z) (hn : n ≤ 1000) (v0 : 0 ≤ v) (v1 : v < (z.length : Int)) : ∃ y, gIx (.str z) (.int v) = some (.str y) ∧ okS 1 y := by
  obtain ⟨k, rfl⟩ : ∃ k : Nat, v = (k : Int) := ⟨_, (Int.toNat_of_nonneg v0).symm⟩
  have hk : k < z.cps.toList.length := by rw [← len_cps]; omega
  refine ⟨sgn z.cps.toList[k], ?_, okS.sgn (h.1 _ (List.getElem_mem hk))⟩
  show (if z.length ≤ sizeLine then (atI z.cps.toList (k : Int)).map fun c => D.str ⟨#[c]⟩ else none) = _
  have := h.2
  rw [if_pos (by rw [sizeLine_eq]; omega), atI_nat, List.getElem?_eq_getElem hk]; rfl
theorem pick_s {B : Int} {S : Store} {z : Str} {n : Nat} (F : Fd B S) (hB : B < 1000000000) (h : okS n z) (hn : n ≤ 1000) (h0 : 0 < z.length) : ∃ y S', f__law_pick [.obj 0, .str z] S = some (.str y, S') ∧ okS 1 y ∧ Fd (B + 1) S' := by
  have hz := h.2
  obtain ⟨v, S', e, v0, v1, F'⟩ := draw_ok F hB (m := (z.length : Int)) (by omega) (log_small (by omega) (by omega))
  obtain ⟨y, I, oy⟩ := ix_s h hn v0 v1
  refine ⟨y, S', ?_, oy, F'⟩
  unfold f__law_pick g__law_pick
  simp only [runDef, sSeq, sNil, sRet, sIf, sSet, sSetL, sExt, sApp, sPar, sFreeze, sDrop, eC, eV, eP, e1, e2, l2, eL, aN, aC, aG, aGL, tOf, tAndJ, tOrJ, tNotJ, eAnd, eOr, eNot, eIf, eCh, tTru, gTru, eTup, lDisp, iOf, J.items?, iRg1, iRg2, cYes, bName, bTup, bCons, bNil, mN, mD, mO, setsS, eCall, gIsi, gIsi2, isT_tt, gLen, gI0, gLe_i, gGe_i, gGt_i, gLt_i, gAdd_i,  gListL, gTuple, eSl, oN, oS, List.map_cons, List.map_nil, List.map, List.replicate, List.length_cons, List.length_nil, List.nil_append, List.cons_append, List.append_nil, List.set_cons_zero, List.set_cons_succ, List.set, List.length, List.getElem?_cons_zero, List.getElem?_cons_succ, Nat.sub, Nat.reduceSub, Nat.reduceAdd, Nat.reduceLT, Nat.reduceLeDiff, List.getElem?_nil, Bool.false_eq_true, if_true, if_false, Bool.true_and, Bool.false_and, Bool.and_true, Bool.and_false, Bool.not_true, Bool.not_false, Bool.true_or, Bool.or_true, Bool.or_false, Bool.false_or, wipeE, if_pos (show z.length ≤ sizeLine by rw [sizeLine_eq]; omega), e, I]
end K04

set_option maxHeartbeats 4000000
namespace K04
open PySem PySem.Spec PyProof.Rows L2 J
def isStr (n : Nat) (d : D) : Prop := ∃ z, d = .str z ∧ okS n z
theorem strs_all {n : Nat} : ∀ ds : List D, (∀ d ∈ ds, isStr n d) → ∃ zs : List Str, J.strs? ds = some zs ∧ ds = zs.map D.str ∧ zs.length = ds.length ∧ ∀ z ∈ zs, okS n z
  | [], _ => ⟨[], rfl, rfl, rfl, fun z m => by simp at m⟩
  | d :: r, h => by
    obtain ⟨z, rfl, o⟩ := h d List.mem_cons_self
    obtain ⟨zs, e, e2, l, a⟩ := strs_all r fun x m => h x (List.mem_cons_of_mem _ m)
    exact ⟨z :: zs, by rw [J.strs?, e]; rfl, by rw [e2]; rfl, by rw [List.length_cons, List.length_cons, l], fun x m => (List.mem_cons.mp m).elim (fun q => by rw [q]; exact o) (a x)⟩
theorem sum_le {n : Nat} : ∀ zs : List Str, (∀ z ∈ zs, okS n z) → (zs.map (·.length)).sum ≤ n * zs.length
  | [], _ => Nat.zero_le _
  | z :: r, h => by
    have := sum_le r fun x m => h x (List.mem_cons_of_mem _ m)
    have h1 := (h z List.mem_cons_self).2
    rw [List.map_cons, List.sum_cons, List.length_cons, Nat.mul_add, Nat.mul_one]
    omega
theorem okS_empty : okS 0 Str.empty := ⟨fun c m => by
  have : c ∈ ([] : List Nat) := m
  simp at this, Nat.le_refl _⟩
theorem okS_join {n : Nat} : ∀ zs : List Str, (∀ z ∈ zs, okS n z) → okS (n * zs.length) (Str.join "" zs)
  | [], _ => okS_empty.mono (Nat.zero_le _)
  | [z], h => (h z List.mem_cons_self).mono (by simp)
  | z :: y :: r, h => by
    have a := okS_join (y :: r) fun x m => h x (List.mem_cons_of_mem _ m)
    have b := h z List.mem_cons_self
    have c : okS (n + 0) (z ++ ("" : Str)) := b.app okS_empty
    have d := c.app a
    have e : n + 0 + n * (y :: r).length = n * (z :: y :: r).length := by
      rw [List.length_cons (a := z), Nat.mul_add, Nat.mul_one]; omega
    rw [e] at d
    exact d
theorem join_ok {n : Nat} {ds : List D} (h : ∀ d ∈ ds, isStr n d) (hz : n * ds.length ≤ 1000) : ∃ z, gJoin (.str "") (.lst ds) = some (.str z) ∧ okS (n * ds.length) z := by
  obtain ⟨zs, e, _, l, a⟩ := strs_all ds h
  refine ⟨Txt.join "" zs, ?_, by rw [TL.join_eq, ← l]; exact okS_join zs a⟩
  show (match J.strs? ds with | some ys => if (ys.map (fun y : Str => y.length)).sum + ys.length * ("" : Str).length ≤ 16777216 then some (D.str (Txt.join "" ys)) else none | none => none) = _
  rw [e]
  have := sum_le zs a
  have e0 : ("" : Str).length = 0 := rfl
  rw [l] at this
  exact if_pos (by rw [e0, Nat.mul_zero]; omega)
theorem okSG : okS 36 SG := ⟨by decide, by decide⟩
theorem picks_ok {j : Nat} {l : EL} {ρ : J.Env} {S S0 : Store} {xs : List D} {B : Int} (h0 : ρ[0]? = some (.d (.obj 0))) (h2 : ρ[2]? = some (.d (.str SG))) (j0 : j ≠ 0) (j2 : j ≠ 2) (hl : l ρ S0 = some (xs, S)) (hz : xs.length ≤ 100) (F : Fd B S) (hB : B + 100 ≤ 1000000000) :
    ∃ ys S', lComp [j] l (bName j) cYes (eCall f__law_pick (aC (eV 0) (aC (eV 2) aN))) ρ S0 = some (ys, S') ∧ (∀ y ∈ ys, isStr 1 y) ∧ ys.length ≤ xs.length ∧ Fd (B + 1 * xs.length) S' := by
  refine lComp_inv (P := isStr 1) (k := 1) (N := B + 1 * xs.length) (by decide) hl (by omega) F (Int.le_refl _) fun x _ B' S' F' hB' => ?_
  obtain ⟨y, S2, e, oy, F2⟩ := pick_s F' (show B' < 1000000000 by omega) okSG (by decide) (by decide)
  refine ⟨_, rfl, true, S', rfl, F'.mono (by omega), fun _ => ⟨.str y, S2, ?_, ⟨y, rfl, oy⟩, F2⟩⟩
  have e0 : ((wipeE ρ [j]).set j (.d x))[0]? = some (.d (.obj 0)) := by
    simp only [wipeE]
    rw [List.getElem?_set_ne j0, List.getElem?_set_ne j0]; exact h0
  have e2' : ((wipeE ρ [j]).set j (.d x))[2]? = some (.d (.str SG)) := by
    simp only [wipeE]
    rw [List.getElem?_set_ne j2, List.getElem?_set_ne j2]; exact h2
  simp only [eCall, aC, eV, aN, e0, e2', e]
theorem forGo_inv {I : Nat → J.Env → Prop} {bd : BD} {body : GS} {k N : Int} {L : Nat} (hk : 0 ≤ k) : ∀ (xs : List D) (n : Nat) (ρ : J.Env) (B : Int) (S : Store), I n ρ → Fd B S → B + k * xs.length ≤ N → n + xs.length ≤ L →
    (∀ x ∈ xs, ∀ (n : Nat) (ρ : J.Env) (B : Int) (S : Store), n < L → I n ρ → Fd B S → B + k ≤ N → ∃ ρ1, bd x ρ = some ρ1 ∧ ∃ ρ2 S2, body ρ1 S = some (.nx ρ2, S2) ∧ I (n + 1) ρ2 ∧ Fd (B + k) S2) →
    ∃ ρ' S', forGo bd body xs ρ S = some (.nx ρ', S') ∧ I (n + xs.length) ρ' ∧ Fd (B + k * xs.length) S'
  | [], n, ρ, B, S, i, F, hN, hL, h => ⟨ρ, S, rfl, i, F.mono (by simp)⟩
  | x :: r, n, ρ, B, S, i, F, hN, hL, h => by
    have e : k * ((x :: r).length : Int) = k + k * (r.length : Int) := by
      rw [List.length_cons]
      have : (((r.length + 1 : Nat)) : Int) = (r.length : Int) + 1 := by omega
      rw [this, Int.mul_add, Int.mul_one]; omega
    have pos : 0 ≤ k * (r.length : Int) := Int.mul_nonneg hk (by omega)
    have hl : (x :: r).length = r.length + 1 := rfl
    obtain ⟨ρ1, h1, ρ2, S2, h2, i2, F2⟩ := h x List.mem_cons_self n ρ B S (by omega) i F (by omega)
    obtain ⟨ρ', S', g1, g2, g3⟩ := forGo_inv hk r (n + 1) ρ2 (B + k) S2 i2 F2 (by omega) (by omega) fun y m => h y (List.mem_cons_of_mem _ m)
    refine ⟨ρ', S', ?_, by rw [hl, show n + (r.length + 1) = n + 1 + r.length by omega]; exact g2, g3.mono (by omega)⟩
    rw [forGo, h1]
    simp only [h2, g1]
theorem forGo_ix {I : Nat → J.Env → Prop} {bd : BD} {body : GS} {k N : Int} (hk : 0 ≤ k) (xs : List D) : ∀ (m n : Nat) (ρ : J.Env) (B : Int) (S : Store), n + m = xs.length → I n ρ → Fd B S → B + k * m ≤ N →
    (∀ (n : Nat) (hn : n < xs.length) (ρ : J.Env) (B : Int) (S : Store), I n ρ → Fd B S → B + k ≤ N → ∃ ρ1, bd xs[n] ρ = some ρ1 ∧ ∃ ρ2 S2, body ρ1 S = some (.nx ρ2, S2) ∧ I (n + 1) ρ2 ∧ Fd (B + k) S2) →
    ∃ ρ' S', forGo bd body (xs.drop n) ρ S = some (.nx ρ', S') ∧ I xs.length ρ' ∧ Fd (B + k * m) S'
  | 0, n, ρ, B, S, e, i, F, hN, h => by
    have e : n = xs.length := by omega
    subst e
    refine ⟨ρ, S, ?_, i, F.mono (by simp)⟩
    rw [List.drop_eq_nil_of_le (Nat.le_refl _)]; rfl
  | m + 1, n, ρ, B, S, en, i, F, hN, h => by
    have e : k * ((m + 1 : Nat) : Int) = k + k * (m : Int) := by
      have : (((m + 1 : Nat)) : Int) = (m : Int) + 1 := by omega
      rw [this, Int.mul_add, Int.mul_one]; omega
    have pos : 0 ≤ k * (m : Int) := Int.mul_nonneg hk (by omega)
    have hn : n < xs.length := by omega
    obtain ⟨ρ1, h1, ρ2, S2, h2, i2, F2⟩ := h n hn ρ B S i F (by omega)
    obtain ⟨ρ', S', g1, g2, g3⟩ := forGo_ix hk xs m (n + 1) ρ2 (B + k) S2 (by omega) i2 F2 (by omega) h
    refine ⟨ρ', S', ?_, g2, g3.mono (by omega)⟩
    rw [List.drop_eq_getElem_cons hn, forGo, h1]
    simp only [h2, g1]
theorem rg1_at {r : EL} {ρ : J.Env} {S S1 : Store} {n : Nat} (h : r ρ S = some ([.int (n : Int)], S1)) (hn : n ≤ 100000) : iRg1 r ρ S = some (ranged 0 n, S1) := by
  unfold iRg1
  rw [h]
  show (if -(2 ^ 62) ≤ (n : Int) ∧ (n : Int) < 2 ^ 62 then some (ranged 0 (n : Int).toNat, S1) else none) = _
  rw [if_pos ⟨by omega, by omega⟩, Int.toNat_natCast]
theorem ranged_len (lo : Int) (n : Nat) : (ranged lo n).length = n := by unfold ranged; rw [List.length_map, List.length_range]
/-! ### names -/
def strB (n : Nat) : D → Bool | .str z => z.cps.toList.all (· < 1114112) && decide (z.length ≤ n) | _ => false
theorem strB_ok {n : Nat} {d : D} (h : strB n d = true) : isStr n d := by
  cases d with
  | str z =>
    rw [strB, Bool.and_eq_true, decide_eq_true_eq] at h
    exact ⟨z, rfl, fun c m => of_decide_eq_true (List.all_eq_true.mp h.1 c m), h.2⟩
  | _ => cases h
def wds : List D := [.str "source", .str "party", .str "unlike", .str "build", .str "steady", .str "loose", .str "n0", .str "n10", .str "n9", .str "a", .str "ab", .str "abc", .str "a0", .str "z9"]
theorem wds_ok : ∀ d ∈ wds, isStr 10 d := fun d m => strB_ok (List.all_eq_true.mp (show wds.all (strB 10) = true by rfl) d m)
theorem str_goods {n : Nat} {ds : List D} (h : ∀ d ∈ ds, isStr n d) (hn : n ≤ 1000) : goods ds = true := (goods_all _).mpr fun d m => by
  obtain ⟨z, rfl, o⟩ := h d m
  exact o.good hn
theorem str_dpts {n : Nat} {ds : List D} (h : ∀ d ∈ ds, isStr n d) : dpts ds ≤ 63 := (dpts_le _).mpr fun d m => by
  obtain ⟨z, rfl, o⟩ := h d m
  exact Nat.zero_le _
/-- x in a list of good things -/
theorem gIn_l {neg : Bool} {x : D} {ys : List D} (gx : good x = true) (dx : dpt x ≤ 64) (gy : goods ys = true) (dy : dpts ys ≤ 63) (hx : ∀ z, x = .str z → True) : ∃ b, gIn neg x (.lst ys) = some (.bl b) := by
  obtain ⟨y, e, c, p⟩ := good_py x gx
  obtain ⟨zs, e2, c2, p2⟩ := goods_py ys gy
  have s1 : SeqAt.shaped y = true := shaped_of c (by omega)
  have s2 : SeqAt.shaped (.list zs) = true := shaped_of c2 (by rw [PyData.depth]; omega)
  refine ⟨if neg then !zs.any fun z => PyData.eqv z y else zs.any fun z => PyData.eqv z y, ?_⟩
  have h : gInD neg y zs = some (.bl (if neg then !zs.any fun z => PyData.eqv z y else zs.any fun z => PyData.eqv z y)) := if_pos ⟨s1, s2⟩
  cases x <;> first | (simp only [gIn, e, e2, h]) | cases gx
end K04

set_option maxHeartbeats 4000000
namespace K04
open PySem PySem.Spec PyProof.Rows L2 J
def nE (many way size cut : Int) (stem : Str) (s3 : Slot) (found : List D) (s9 s10 s11 s12 s13 : Slot) : J.Env :=
  [.d (.obj 0), .d (.int many), .d (.str SG), s3, .d (.int way), .d (.int size), .own found, .d (.str stem), .d (.int cut), s9, s10, s11, s12, s13]
def N1 : GS := (sSet (e2 gAdd (e2 gAdd (eSl (eP 7) oN (oS (eV 8))) (eCall f__law_pick (aC (eV 0) (aC (eV 2) aN)))) (eSl (eP 7) (oS (eV 8)) oN)) (bName 10))
def N2 : GS := (sIf (tOf (e2 (gEq false) (eP 4) (eC (.int 1)))) (sFreeze 3 (sSet (eCall f__law_pick (aC (eV 0) (aC (eV 3) aN))) (bName 10))) sNil)
def N3 : GS := (sIf (tOf (e2 (gEq false) (eP 4) (eC (.int 2)))) (sSeq (sSet (eL (lComp [12] (iRg1 (aC (eCall f__law_draw (aC (eV 0) (aC (eC (.int 8)) aN))) aN)) (bName 12) cYes (eCall f__law_pick (aC (eV 0) (aC (eV 2) aN))))) (bName 11)) (sSet (e2 gAdd (e2 gIx (eP 2) (eCall f__law_draw (aC (eV 0) (aC (eC (.int 26)) aN)))) (e2 gJoin (eC (.str ("" : Str))) (eP 11))) (bName 10))) sNil)
def N4 : GS := (sIf (tOf (e2 (gIn false) (eP 10) (eP 6))) (sSet (e2 gIx (eL (lComp [13] (iOf (eSl (eP 2) oN (oS (eC (.int 26))))) (bName 13) (tOf (e2 (gIn true) (eP 13) (eP 6))) (eV 13))) (eC (.int 0))) (bName 10)) sNil)
section
variable {many way size cut B : Int} {stem nm : Str} {s3 s9 s10 s11 s12 s13 : Slot} {found : List D} {S : Store}
theorem n1_ok (F : Fd B S) (hB : B < 1000000) (hs : okS 8 stem) : ∃ y S', N1 (nE many way size cut stem s3 found s9 s10 s11 s12 s13) S = some (.nx (nE many way size cut stem s3 found s9 (.d (.str y)) s11 s12 s13), S') ∧ okS 40 y ∧ Fd (B + 1) S' := by
  obtain ⟨y, S', e, oy, F'⟩ := pick_s F (by omega) okSG (by decide) (by decide)
  have c1 := hs.cut none (some cut)
  have c2 := hs.cut (some cut) none
  have a1 := c1.app oy
  have a2 := a1.app c2
  refine ⟨_, S', ?_, a2.mono (by decide), F'⟩
  have l1 := c1.2
  have l2 := oy.2
  have l3 := c2.2
  have l4 := a1.2
  have g1 := gAdd_s (x := cutS stem none (some cut)) (y := y) (by omega)
  have g2 := gAdd_s (x := cutS stem none (some cut) ++ y) (y := cutS stem (some cut) none) (by omega)
  have hl := hs.2
  unfold N1 nE
  simp only [runDef, sSeq, sNil, sRet, sIf, sSet, sSetL, sExt, sApp, sPar, sFreeze, sDrop, eC, eV, eP, e1, e2, l2, eL, aN, aC, aG, aGL, tOf, tAndJ, tOrJ, tNotJ, eAnd, eOr, eNot, eIf, eCh, tTru, gTru, eTup, lDisp, iOf, J.items?, iRg1, iRg2, cYes, bName, bTup, bCons, bNil, mN, mD, mO, setsS, eCall, gIsi, gIsi2, isT_tt, gLen, gI0, gLe_i, gGe_i, gGt_i, gLt_i, gAdd_i,  gListL, gTuple, eSl, oN, oS, List.map_cons, List.map_nil, List.map, List.replicate, List.length_cons, List.length_nil, List.nil_append, List.cons_append, List.append_nil, List.set_cons_zero, List.set_cons_succ, List.set, List.length, List.getElem?_cons_zero, List.getElem?_cons_succ, Nat.sub, Nat.reduceSub, Nat.reduceAdd, Nat.reduceLT, Nat.reduceLeDiff, List.getElem?_nil, Bool.false_eq_true, if_true, if_false, Bool.true_and, Bool.false_and, Bool.and_true, Bool.and_false, Bool.not_true, Bool.not_false, Bool.true_or, Bool.or_true, Bool.or_false, Bool.false_or, wipeE, gSl_s none (some cut) (show stem.length ≤ 1000 by omega), gSl_s (some cut) none (show stem.length ≤ 1000 by omega), e, g1, g2]
theorem n2_ok (F : Fd B S) (hB : B < 1000000) (h3 : s3 = .own wds ∨ s3 = .d (.lst wds)) (hn : okS 40 nm) : ∃ y t3 S', N2 (nE many way size cut stem s3 found s9 (.d (.str nm)) s11 s12 s13) S = some (.nx (nE many way size cut stem t3 found s9 (.d (.str y)) s11 s12 s13), S') ∧ (t3 = .own wds ∨ t3 = .d (.lst wds)) ∧ okS 40 y ∧ Fd (B + 1) S' := by
  by_cases h : way = 1
  · obtain ⟨x, S', e, mx, F'⟩ := pick_l F (xs := wds) (by omega) (by decide) (by decide)
    obtain ⟨y, rfl, oy⟩ := wds_ok x mx
    refine ⟨y, .d (.lst wds), S', ?_, .inr rfl, oy.mono (by decide), F'⟩
    unfold N2 nE
    rcases h3 with rfl | rfl <;> simp only [runDef, sSeq, sNil, sRet, sIf, sSet, sSetL, sExt, sApp, sPar, sFreeze, sDrop, eC, eV, eP, e1, e2, l2, eL, aN, aC, aG, aGL, tOf, tAndJ, tOrJ, tNotJ, eAnd, eOr, eNot, eIf, eCh, tTru, gTru, eTup, lDisp, iOf, J.items?, iRg1, iRg2, cYes, bName, bTup, bCons, bNil, mN, mD, mO, setsS, eCall, gIsi, gIsi2, isT_tt, gLen, gI0, gLe_i, gGe_i, gGt_i, gLt_i, gAdd_i,  gListL, gTuple, eSl, oN, oS, List.map_cons, List.map_nil, List.map, List.replicate, List.length_cons, List.length_nil, List.nil_append, List.cons_append, List.append_nil, List.set_cons_zero, List.set_cons_succ, List.set, List.length, List.getElem?_cons_zero, List.getElem?_cons_succ, Nat.sub, Nat.reduceSub, Nat.reduceAdd, Nat.reduceLT, Nat.reduceLeDiff, List.getElem?_nil, Bool.false_eq_true, if_true, if_false, Bool.true_and, Bool.false_and, Bool.and_true, Bool.and_false, Bool.not_true, Bool.not_false, Bool.true_or, Bool.or_true, Bool.or_false, Bool.false_or, wipeE, gEq_i, h, e, show ((1 : Int) == 1) = true from rfl]
  · refine ⟨nm, s3, S, ?_, h3, hn, F.mono (by omega)⟩
    unfold N2 nE
    simp only [runDef, sSeq, sNil, sRet, sIf, sSet, sSetL, sExt, sApp, sPar, sFreeze, sDrop, eC, eV, eP, e1, e2, l2, eL, aN, aC, aG, aGL, tOf, tAndJ, tOrJ, tNotJ, eAnd, eOr, eNot, eIf, eCh, tTru, gTru, eTup, lDisp, iOf, J.items?, iRg1, iRg2, cYes, bName, bTup, bCons, bNil, mN, mD, mO, setsS, eCall, gIsi, gIsi2, isT_tt, gLen, gI0, gLe_i, gGe_i, gGt_i, gLt_i, gAdd_i,  gListL, gTuple, eSl, oN, oS, List.map_cons, List.map_nil, List.map, List.replicate, List.length_cons, List.length_nil, List.nil_append, List.cons_append, List.append_nil, List.set_cons_zero, List.set_cons_succ, List.set, List.length, List.getElem?_cons_zero, List.getElem?_cons_succ, Nat.sub, Nat.reduceSub, Nat.reduceAdd, Nat.reduceLT, Nat.reduceLeDiff, List.getElem?_nil, Bool.false_eq_true, if_true, if_false, Bool.true_and, Bool.false_and, Bool.and_true, Bool.and_false, Bool.not_true, Bool.not_false, Bool.true_or, Bool.or_true, Bool.or_false, Bool.false_or, wipeE, gEq_i, beq_eq_false_iff_ne.mpr h]
theorem n3_ok (F : Fd B S) (hB : B < 1000000) (hn : okS 40 nm) : ∃ y t11 S', N3 (nE many way size cut stem s3 found s9 (.d (.str nm)) s11 s12 s13) S = some (.nx (nE many way size cut stem s3 found s9 (.d (.str y)) t11 s12 s13), S') ∧ okS 40 y ∧ Fd (B + 20) S' := by
  by_cases h : way = 2
  · obtain ⟨v, S1, e, v0, v1, F1⟩ := draw_ok F (by omega) (m := 8) (by decide) (by decide)
    obtain ⟨n, rfl⟩ : ∃ n : Nat, v = (n : Int) := ⟨_, (Int.toNat_of_nonneg v0).symm⟩
    have L : iRg1 (aC (eCall f__law_draw (aC (eV 0) (aC (eC (.int 8)) aN))) aN) (nE many way size cut stem s3 found s9 (.d (.str nm)) s11 s12 s13) S = some (ranged 0 n, S1) := rg1_at (by unfold nE; simp only [runDef, sSeq, sNil, sRet, sIf, sSet, sSetL, sExt, sApp, sPar, sFreeze, sDrop, eC, eV, eP, e1, e2, l2, eL, aN, aC, aG, aGL, tOf, tAndJ, tOrJ, tNotJ, eAnd, eOr, eNot, eIf, eCh, tTru, gTru, eTup, lDisp, iOf, J.items?, iRg1, iRg2, cYes, bName, bTup, bCons, bNil, mN, mD, mO, setsS, eCall, gIsi, gIsi2, isT_tt, gLen, gI0, gLe_i, gGe_i, gGt_i, gLt_i, gAdd_i,  gListL, gTuple, eSl, oN, oS, List.map_cons, List.map_nil, List.map, List.replicate, List.length_cons, List.length_nil, List.nil_append, List.cons_append, List.append_nil, List.set_cons_zero, List.set_cons_succ, List.set, List.length, List.getElem?_cons_zero, List.getElem?_cons_succ, Nat.sub, Nat.reduceSub, Nat.reduceAdd, Nat.reduceLT, Nat.reduceLeDiff, List.getElem?_nil, Bool.false_eq_true, if_true, if_false, Bool.true_and, Bool.false_and, Bool.and_true, Bool.and_false, Bool.not_true, Bool.not_false, Bool.true_or, Bool.or_true, Bool.or_false, Bool.false_or, wipeE, e]) (by omega)
    obtain ⟨ys, S2, C, oy, ly, F2⟩ := picks_ok (j := 12) (ρ := nE many way size cut stem s3 found s9 (.d (.str nm)) s11 s12 s13) rfl rfl (by decide) (by decide) L (by rw [ranged_len]; omega) F1 (by omega)
    rw [ranged_len] at ly F2
    obtain ⟨z, J1, oz⟩ := join_ok oy (by omega)
    obtain ⟨v2, S3, e2', w0, w1, F3⟩ := draw_ok F2 (by omega) (m := 26) (by decide) (by decide)
    obtain ⟨c, I1, oc⟩ := ix_s okSG (by decide) w0 (show v2 < ((SG.length : Nat) : Int) from Int.lt_trans w1 (by decide))
    have a := oc.app oz
    have l1 := oc.2
    have l2 := oz.2
    refine ⟨c ++ z, .d (.lst ys), S3, ?_, a.mono (by omega), F3.mono (by omega)⟩
    have T1 : sSet (eL (lComp [12] (iRg1 (aC (eCall f__law_draw (aC (eV 0) (aC (eC (.int 8)) aN))) aN)) (bName 12) cYes (eCall f__law_pick (aC (eV 0) (aC (eV 2) aN))))) (bName 11) (nE many way size cut stem s3 found s9 (.d (.str nm)) s11 s12 s13) S = some (.nx (nE many way size cut stem s3 found s9 (.d (.str nm)) (.d (.lst ys)) s12 s13), S2) := set_at (eL_at C)
    have T2 : sSet (e2 gAdd (e2 gIx (eP 2) (eCall f__law_draw (aC (eV 0) (aC (eC (.int 26)) aN)))) (e2 gJoin (eC (.str ("" : Str))) (eP 11))) (bName 10) (nE many way size cut stem s3 found s9 (.d (.str nm)) (.d (.lst ys)) s12 s13) S2 = some (.nx (nE many way size cut stem s3 found s9 (.d (.str (c ++ z))) (.d (.lst ys)) s12 s13), S3) := by
      unfold nE
      simp only [runDef, sSeq, sNil, sRet, sIf, sSet, sSetL, sExt, sApp, sPar, sFreeze, sDrop, eC, eV, eP, e1, e2, l2, eL, aN, aC, aG, aGL, tOf, tAndJ, tOrJ, tNotJ, eAnd, eOr, eNot, eIf, eCh, tTru, gTru, eTup, lDisp, iOf, J.items?, iRg1, iRg2, cYes, bName, bTup, bCons, bNil, mN, mD, mO, setsS, eCall, gIsi, gIsi2, isT_tt, gLen, gI0, gLe_i, gGe_i, gGt_i, gLt_i, gAdd_i,  gListL, gTuple, eSl, oN, oS, List.map_cons, List.map_nil, List.map, List.replicate, List.length_cons, List.length_nil, List.nil_append, List.cons_append, List.append_nil, List.set_cons_zero, List.set_cons_succ, List.set, List.length, List.getElem?_cons_zero, List.getElem?_cons_succ, Nat.sub, Nat.reduceSub, Nat.reduceAdd, Nat.reduceLT, Nat.reduceLeDiff, List.getElem?_nil, Bool.false_eq_true, if_true, if_false, Bool.true_and, Bool.false_and, Bool.and_true, Bool.and_false, Bool.not_true, Bool.not_false, Bool.true_or, Bool.or_true, Bool.or_false, Bool.false_or, wipeE, e2', I1, J1, gAdd_s (show c.length + z.length ≤ 16777216 by omega)]
    have T0 : tOf (e2 (gEq false) (eP 4) (eC (.int 2))) (nE many way size cut stem s3 found s9 (.d (.str nm)) s11 s12 s13) S = some (true, S) := by
      unfold nE
      simp only [runDef, sSeq, sNil, sRet, sIf, sSet, sSetL, sExt, sApp, sPar, sFreeze, sDrop, eC, eV, eP, e1, e2, l2, eL, aN, aC, aG, aGL, tOf, tAndJ, tOrJ, tNotJ, eAnd, eOr, eNot, eIf, eCh, tTru, gTru, eTup, lDisp, iOf, J.items?, iRg1, iRg2, cYes, bName, bTup, bCons, bNil, mN, mD, mO, setsS, eCall, gIsi, gIsi2, isT_tt, gLen, gI0, gLe_i, gGe_i, gGt_i, gLt_i, gAdd_i,  gListL, gTuple, eSl, oN, oS, List.map_cons, List.map_nil, List.map, List.replicate, List.length_cons, List.length_nil, List.nil_append, List.cons_append, List.append_nil, List.set_cons_zero, List.set_cons_succ, List.set, List.length, List.getElem?_cons_zero, List.getElem?_cons_succ, Nat.sub, Nat.reduceSub, Nat.reduceAdd, Nat.reduceLT, Nat.reduceLeDiff, List.getElem?_nil, Bool.false_eq_true, if_true, if_false, Bool.true_and, Bool.false_and, Bool.and_true, Bool.and_false, Bool.not_true, Bool.not_false, Bool.true_or, Bool.or_true, Bool.or_false, Bool.false_or, wipeE, gEq_i, h, show ((2 : Int) == 2) = true from rfl]
    unfold N3 sIf
    rw [T0]
    exact (seq_at T1).trans T2
  · refine ⟨nm, s11, S, ?_, hn, F.mono (by omega)⟩
    unfold N3 nE
    simp only [runDef, sSeq, sNil, sRet, sIf, sSet, sSetL, sExt, sApp, sPar, sFreeze, sDrop, eC, eV, eP, e1, e2, l2, eL, aN, aC, aG, aGL, tOf, tAndJ, tOrJ, tNotJ, eAnd, eOr, eNot, eIf, eCh, tTru, gTru, eTup, lDisp, iOf, J.items?, iRg1, iRg2, cYes, bName, bTup, bCons, bNil, mN, mD, mO, setsS, eCall, gIsi, gIsi2, isT_tt, gLen, gI0, gLe_i, gGe_i, gGt_i, gLt_i, gAdd_i,  gListL, gTuple, eSl, oN, oS, List.map_cons, List.map_nil, List.map, List.replicate, List.length_cons, List.length_nil, List.nil_append, List.cons_append, List.append_nil, List.set_cons_zero, List.set_cons_succ, List.set, List.length, List.getElem?_cons_zero, List.getElem?_cons_succ, Nat.sub, Nat.reduceSub, Nat.reduceAdd, Nat.reduceLT, Nat.reduceLeDiff, List.getElem?_nil, Bool.false_eq_true, if_true, if_false, Bool.true_and, Bool.false_and, Bool.and_true, Bool.and_false, Bool.not_true, Bool.not_false, Bool.true_or, Bool.or_true, Bool.or_false, Bool.false_or, wipeE, gEq_i, beq_eq_false_iff_ne.mpr h]
end
end K04

set_option maxHeartbeats 4000000
namespace K04
open PySem PySem.Spec PyProof.Rows L2 J
theorem toPys_strs : ∀ fs : List Str, toPys (fs.map D.str) = some (fs.map PyData.str)
  | [] => rfl
  | x :: r => by rw [List.map_cons, toPys, toPys_strs r]; rfl
theorem strs_is {n : Nat} {fs : List Str} (h : ∀ z ∈ fs, okS n z) : ∀ d ∈ fs.map D.str, isStr n d := fun d m => by
  obtain ⟨z, mz, rfl⟩ := List.mem_map.mp m
  exact ⟨z, rfl, h z mz⟩
theorem gIn_fs {neg : Bool} {fs : List Str} {c : Str} {n m : Nat} (h : ∀ z ∈ fs, okS n z) (hn : n ≤ 1000) (hc : okS m c) (hm : m ≤ 1000) : gIn neg (.str c) (.lst (fs.map D.str)) = some (.bl (if neg then !decide (c ∈ fs) else decide (c ∈ fs))) := by
  obtain ⟨y, e, cy, py⟩ := good_py (.str c) (hc.good hm)
  obtain ⟨zs, e2, c2, p2⟩ := goods_py (fs.map D.str) (str_goods (strs_is h) hn)
  have dd := str_dpts (strs_is h)
  rw [toPys_strs] at e2
  cases e2
  cases e
  have s1 : SeqAt.shaped (.str c) = true := shaped_of cy (by rw [py]; exact Nat.zero_le _)
  have s2 : SeqAt.shaped (.list (fs.map PyData.str)) = true := shaped_of c2 (by rw [PyData.depth]; omega)
  have A : ((fs.map PyData.str).any fun z => PyData.eqv z (.str c)) = decide (c ∈ fs) := by
    rw [Bool.eq_iff_iff, List.any_eq_true, decide_eq_true_eq]
    constructor
    · rintro ⟨z, mz, ez⟩
      obtain ⟨a, ma, rfl⟩ := List.mem_map.mp mz
      have : (a == c) = true := ez
      rw [← beq_iff_eq.mp this]; exact ma
    · intro mc
      exact ⟨.str c, List.mem_map.mpr ⟨c, mc, rfl⟩, show (c == c) = true from beq_self_eq_true c⟩
  have G : gInD neg (.str c) (fs.map PyData.str) = some (.bl (if neg then !((fs.map PyData.str).any fun z => PyData.eqv z (.str c)) else (fs.map PyData.str).any fun z => PyData.eqv z (.str c))) := if_pos ⟨s1, s2⟩
  rw [A] at G
  have T := toPys_strs fs
  show (match toPy (.str c), toPys (fs.map D.str) with | some a, some bs => gInD neg a bs | _, _ => none) = _
  rw [T]
  exact G
def lets : List Str := FS.cps.toList.map sgn
theorem lets_nd : lets.Nodup := by decide
theorem gIx_l0 {x : D} {r : List D} : gIx (.lst (x :: r)) (.int 0) = some x := by
  show atI (x :: r) ((0 : Nat) : Int) = _
  rw [atI_nat]; rfl
section
variable {many way size cut B : Int} {stem nm : Str} {s3 s9 s10 s11 s12 s13 : Slot} {S : Store} {fs : List Str}
theorem n4_ok (hf : ∀ z ∈ fs, okS 40 z) (hl : fs.length < 26) (hn : okS 40 nm) : ∃ y, N4 (nE many way size cut stem s3 (fs.map D.str) s9 (.d (.str nm)) s11 s12 s13) S = some (.nx (nE many way size cut stem s3 (fs.map D.str) s9 (.d (.str y)) s11 s12 s13), S) ∧ okS 40 y ∧ y ∉ fs := by
  by_cases h : nm ∈ fs
  · let p : D → Bool := fun x => match x with | .str c => !decide (c ∈ fs) | _ => false
    have C : lComp [13] (iOf (eSl (eP 2) oN (oS (eC (.int 26))))) (bName 13) (tOf (e2 (gIn true) (eP 13) (eP 6))) (eV 13) (nE many way size cut stem s3 (fs.map D.str) s9 (.d (.str nm)) s11 s12 s13) S = some ((J.signs FS).filter p, S) := by
      refine lComp_filter p (by unfold nE; simp only [runDef, sSeq, sNil, sRet, sIf, sSet, sSetL, sExt, sApp, sPar, sFreeze, sDrop, eC, eV, eP, e1, e2, l2, eL, aN, aC, aG, aGL, tOf, tAndJ, tOrJ, tNotJ, eAnd, eOr, eNot, eIf, eCh, tTru, gTru, eTup, lDisp, iOf, J.items?, iRg1, iRg2, cYes, bName, bTup, bCons, bNil, mN, mD, mO, setsS, eCall, gIsi, gIsi2, isT_tt, gLen, gI0, gLe_i, gGe_i, gGt_i, gLt_i, gAdd_i,  gListL, gTuple, eSl, oN, oS, List.map_cons, List.map_nil, List.map, List.replicate, List.length_cons, List.length_nil, List.nil_append, List.cons_append, List.append_nil, List.set_cons_zero, List.set_cons_succ, List.set, List.length, List.getElem?_cons_zero, List.getElem?_cons_succ, Nat.sub, Nat.reduceSub, Nat.reduceAdd, Nat.reduceLT, Nat.reduceLeDiff, List.getElem?_nil, Bool.false_eq_true, if_true, if_false, Bool.true_and, Bool.false_and, Bool.and_true, Bool.and_false, Bool.not_true, Bool.not_false, Bool.true_or, Bool.or_true, Bool.or_false, Bool.false_or, wipeE, cut26]) (by decide) fun x m => ?_
      unfold J.signs at m
      obtain ⟨c, mc, rfl⟩ := List.mem_map.mp m
      have G := gIn_fs (neg := true) hf (by decide) (okS.sgn (c := c) (Nat.lt_trans (show c < 200 from (show ∀ c ∈ FS.cps.toList, c < 200 by decide) c mc) (by decide))) (by decide)
      refine ⟨_, rfl, ?_, rfl⟩
      unfold nE
      simp only [runDef, sSeq, sNil, sRet, sIf, sSet, sSetL, sExt, sApp, sPar, sFreeze, sDrop, eC, eV, eP, e1, e2, l2, eL, aN, aC, aG, aGL, tOf, tAndJ, tOrJ, tNotJ, eAnd, eOr, eNot, eIf, eCh, tTru, gTru, eTup, lDisp, iOf, J.items?, iRg1, iRg2, cYes, bName, bTup, bCons, bNil, mN, mD, mO, setsS, eCall, gIsi, gIsi2, isT_tt, gLen, gI0, gLe_i, gGe_i, gGt_i, gLt_i, gAdd_i,  gListL, gTuple, eSl, oN, oS, List.map_cons, List.map_nil, List.map, List.replicate, List.length_cons, List.length_nil, List.nil_append, List.cons_append, List.append_nil, List.set_cons_zero, List.set_cons_succ, List.set, List.length, List.getElem?_cons_zero, List.getElem?_cons_succ, Nat.sub, Nat.reduceSub, Nat.reduceAdd, Nat.reduceLT, Nat.reduceLeDiff, List.getElem?_nil, Bool.false_eq_true, if_true, if_false, Bool.true_and, Bool.false_and, Bool.and_true, Bool.and_false, Bool.not_true, Bool.not_false, Bool.true_or, Bool.or_true, Bool.or_false, Bool.false_or, wipeE, show (D.str { cps := #[c] }) = D.str (sgn c) from rfl, G]
      rfl
    have ne : (J.signs FS).filter p ≠ [] := fun z => by
      have sub : lets ⊆ fs := fun c mc => by
        have mc' : D.str c ∈ J.signs FS := by
          unfold lets at mc
          obtain ⟨k, mk, rfl⟩ := List.mem_map.mp mc
          unfold J.signs
          exact List.mem_map.mpr ⟨k, mk, rfl⟩
        have q := List.filter_eq_nil_iff.mp z _ mc'
        have q' : ¬ (!decide (c ∈ fs)) = true := q
        simpa using q'
      have := lets_nd.length_le_of_subset sub
      have l26 : lets.length = 26 := by decide
      omega
    cases e : (J.signs FS).filter p with
    | nil => exact absurd e ne
    | cons x r =>
      have mx' := List.mem_filter.mp (show x ∈ (J.signs FS).filter p by rw [e]; exact List.mem_cons_self)
      have mx : x ∈ J.signs FS := mx'.1
      have px := mx'.2
      unfold J.signs at mx
      obtain ⟨c, mc, rfl⟩ := List.mem_map.mp mx
      rw [e] at C
      refine ⟨sgn c, ?_, (okS.sgn (Nat.lt_trans (show c < 200 from (show ∀ c ∈ FS.cps.toList, c < 200 by decide) c mc) (by decide))).mono (by decide), fun q => ?_⟩
      rotate_left
      · have px' : (!decide (sgn c ∈ fs)) = true := px
        rw [decide_eq_true q] at px'
        cases px'
      have G := gIn_fs (neg := false) hf (by decide) hn (by decide)
      simp only [decide_eq_true h, if_false, Bool.false_eq_true] at G
      have T0 : tOf (e2 (gIn false) (eP 10) (eP 6)) (nE many way size cut stem s3 (fs.map D.str) s9 (.d (.str nm)) s11 s12 s13) S = some (true, S) := by
        unfold nE; simp only [runDef, sSeq, sNil, sRet, sIf, sSet, sSetL, sExt, sApp, sPar, sFreeze, sDrop, eC, eV, eP, e1, e2, l2, eL, aN, aC, aG, aGL, tOf, tAndJ, tOrJ, tNotJ, eAnd, eOr, eNot, eIf, eCh, tTru, gTru, eTup, lDisp, iOf, J.items?, iRg1, iRg2, cYes, bName, bTup, bCons, bNil, mN, mD, mO, setsS, eCall, gIsi, gIsi2, isT_tt, gLen, gI0, gLe_i, gGe_i, gGt_i, gLt_i, gAdd_i,  gListL, gTuple, eSl, oN, oS, List.map_cons, List.map_nil, List.map, List.replicate, List.length_cons, List.length_nil, List.nil_append, List.cons_append, List.append_nil, List.set_cons_zero, List.set_cons_succ, List.set, List.length, List.getElem?_cons_zero, List.getElem?_cons_succ, Nat.sub, Nat.reduceSub, Nat.reduceAdd, Nat.reduceLT, Nat.reduceLeDiff, List.getElem?_nil, Bool.false_eq_true, if_true, if_false, Bool.true_and, Bool.false_and, Bool.and_true, Bool.and_false, Bool.not_true, Bool.not_false, Bool.true_or, Bool.or_true, Bool.or_false, Bool.false_or, wipeE, G]
      have T1 := set_at (i := 10) (e2_at (eL_at C) (show eC (.int 0) (nE many way size cut stem s3 (fs.map D.str) s9 (.d (.str nm)) s11 s12 s13) S = some (.int 0, S) from rfl) gIx_l0)
      unfold N4 sIf
      rw [T0]
      exact T1
  · refine ⟨nm, ?_, hn, h⟩
    have G := gIn_fs (neg := false) hf (by decide) hn (by decide)
    simp only [decide_eq_false h, if_false, Bool.false_eq_true] at G
    unfold N4 nE
    simp only [runDef, sSeq, sNil, sRet, sIf, sSet, sSetL, sExt, sApp, sPar, sFreeze, sDrop, eC, eV, eP, e1, e2, l2, eL, aN, aC, aG, aGL, tOf, tAndJ, tOrJ, tNotJ, eAnd, eOr, eNot, eIf, eCh, tTru, gTru, eTup, lDisp, iOf, J.items?, iRg1, iRg2, cYes, bName, bTup, bCons, bNil, mN, mD, mO, setsS, eCall, gIsi, gIsi2, isT_tt, gLen, gI0, gLe_i, gGe_i, gGt_i, gLt_i, gAdd_i,  gListL, gTuple, eSl, oN, oS, List.map_cons, List.map_nil, List.map, List.replicate, List.length_cons, List.length_nil, List.nil_append, List.cons_append, List.append_nil, List.set_cons_zero, List.set_cons_succ, List.set, List.length, List.getElem?_cons_zero, List.getElem?_cons_succ, Nat.sub, Nat.reduceSub, Nat.reduceAdd, Nat.reduceLT, Nat.reduceLeDiff, List.getElem?_nil, Bool.false_eq_true, if_true, if_false, Bool.true_and, Bool.false_and, Bool.and_true, Bool.and_false, Bool.not_true, Bool.not_false, Bool.true_or, Bool.or_true, Bool.or_false, Bool.false_or, wipeE, G]
def nI (many way size cut : Int) (stem : Str) (n : Nat) (ρ : J.Env) : Prop := ∃ (s3 : Slot) (fs : List Str) (s9 s10 s11 s12 s13 : Slot), ρ = nE many way size cut stem s3 (fs.map D.str) s9 s10 s11 s12 s13 ∧ (s3 = .own wds ∨ s3 = .d (.lst wds)) ∧ fs.length = n ∧ (∀ z ∈ fs, okS 40 z) ∧ fs.Nodup
theorem n_step (hs : okS 8 stem) {n : Nat} {ρ : J.Env} {x : D} (hn : n < 7) (i : nI many way size cut stem n ρ) (F : Fd B S) (hB : B < 900000) : ∃ ρ1, bName 9 x ρ = some ρ1 ∧ ∃ ρ2 S2, sSeq N1 (sSeq N2 (sSeq N3 (sSeq N4 (sApp 6 (eV 10))))) ρ1 S = some (.nx ρ2, S2) ∧ nI many way size cut stem (n + 1) ρ2 ∧ Fd (B + 22) S2 := by
  obtain ⟨s3, fs, s9, s10, s11, s12, s13, rfl, h3, hl, hf, hnd⟩ := i
  obtain ⟨y1, S1, e1, o1, F1⟩ := n1_ok (many := many) (way := way) (size := size) (cut := cut) (s3 := s3) (s9 := .d x) (s10 := s10) (s11 := s11) (s12 := s12) (s13 := s13) (found := fs.map D.str) F (by omega) hs
  obtain ⟨y2, t3, S2, e2, h3', o2, F2⟩ := n2_ok (many := many) (way := way) (size := size) (cut := cut) (stem := stem) (s9 := .d x) (s11 := s11) (s12 := s12) (s13 := s13) (found := fs.map D.str) F1 (by omega) h3 o1
  obtain ⟨y3, t11, S3, e3, o3, F3⟩ := n3_ok (many := many) (way := way) (size := size) (cut := cut) (stem := stem) (s3 := t3) (s9 := .d x) (s11 := s11) (s12 := s12) (s13 := s13) (found := fs.map D.str) F2 (by omega) o2
  obtain ⟨y4, e4, o4, ny4⟩ := n4_ok (many := many) (way := way) (size := size) (cut := cut) (stem := stem) (s3 := t3) (s9 := .d x) (s11 := t11) (s12 := s12) (s13 := s13) (S := S3) hf (by omega) o3
  refine ⟨nE many way size cut stem s3 (fs.map D.str) (.d x) s10 s11 s12 s13, rfl, nE many way size cut stem t3 ((fs ++ [y4]).map D.str) (.d x) (.d (.str y4)) t11 s12 s13, S3, ?_, ⟨t3, fs ++ [y4], _, _, _, _, _, rfl, h3', by rw [List.length_append, hl]; rfl, fun z m => (List.mem_append.mp m).elim (hf z) fun m => by rw [List.mem_singleton.mp m]; exact o4, List.nodup_append.mpr ⟨hnd, List.nodup_cons.mpr ⟨by simp, List.nodup_nil⟩, fun a ma b mb e => ny4 (by rw [List.mem_singleton.mp mb] at e; rw [← e]; exact ma)⟩⟩, F3.mono (by omega)⟩
  refine (seq_at e1).trans ((seq_at e2).trans ((seq_at e3).trans ((seq_at e4).trans ?_)))
  unfold nE
  simp only [sApp, eV, List.getElem?_cons_zero, List.getElem?_cons_succ, if_pos (show (fs.map D.str).length < sizeLine by rw [List.length_map, sizeLine_eq]; omega), List.set, List.map_append, List.map_cons, List.map_nil]
theorem for_at {l : EL} {bd : BD} {body : GS} {ρ : J.Env} {S S1 : Store} {xs : List D} {r : Option (Out × Store)} (h1 : l ρ S = some (xs, S1)) (h2 : forGo bd body xs ρ S1 = r) : sFor l bd body ρ S = r := by
  unfold sFor; rw [h1]; exact h2
theorem names_ok {many : Nat} (F : Fd B S) (hm : many ≤ 7) (hB : B < 800000) : ∃ (ys : List Str) (S' : Store), f__law_names [.obj 0, .int (many : Int)] S = some (.lst (ys.map D.str), S') ∧ (∀ y ∈ ys, okS 40 y) ∧ ys.length = many ∧ ys.Nodup ∧ Fd (B + 200) S' := by
  obtain ⟨way, S1, e1, w0, w1, F1⟩ := draw_ok F (by omega) (m := 3) (by decide) (by decide)
  obtain ⟨size, S2, q2, z0, z1, F2⟩ := draw_ok F1 (by omega) (m := 7) (by decide) (by decide)
  obtain ⟨n, rfl⟩ : ∃ n : Nat, size = (n : Int) := ⟨_, (Int.toNat_of_nonneg z0).symm⟩
  obtain ⟨v, S3, e3, v0, v1, F3⟩ := draw_ok F2 (by omega) (m := 26) (by decide) (by decide)
  obtain ⟨c, I1, oc⟩ := ix_s okSG (by decide) v0 (show v < ((SG.length : Nat) : Int) from Int.lt_trans v1 (by decide))
  let ρ4 : J.Env := [.d (.obj 0), .d (.int many), .d (.str SG), .own wds, .d (.int way), .d (.int n), .own [], .un, .un, .un, .un, .un, .un, .un]
  obtain ⟨ys, S4, C, oy, ly, F4⟩ := picks_ok (j := 9) (l := iRg1 (aC (eP 5) aN)) (ρ := ρ4) (S0 := S3) rfl rfl (by decide) (by decide) (rg1_at (n := n) rfl (by omega)) (by rw [ranged_len]; omega) F3 (by omega)
  rw [ranged_len] at ly F4
  obtain ⟨z, J1, oz⟩ := join_ok oy (by omega)
  have os : okS 8 (c ++ z) := (oc.app oz).mono (by omega)
  have l1 := oc.2
  have l2 := oz.2
  obtain ⟨w, S5, e5, x0, x1, F5⟩ := draw_ok F4 (by omega) (m := (n : Int) + 1) (by omega) (log_small (by omega) (by omega))
  let ρ6 : J.Env := nE many way n (1 + w) (c ++ z) (.own wds) [] .un .un .un .un .un
  have i0 : nI many way n (1 + w) (c ++ z) 0 ρ6 := ⟨.own wds, [], .un, .un, .un, .un, .un, rfl, .inl rfl, rfl, fun z m => by simp at m, List.nodup_nil⟩
  obtain ⟨ρ7, S6, e6, i7, F6⟩ := forGo_inv (I := nI many way n (1 + w) (c ++ z)) (bd := bName 9) (body := sSeq N1 (sSeq N2 (sSeq N3 (sSeq N4 (sApp 6 (eV 10)))))) (k := 22) (N := 900000 - 1) (L := 7) (by decide) (ranged 0 many) 0 ρ6 (B + 1 + 1 + 1 + 1 * (n : Int) + 1) S5 i0 F5 (by rw [ranged_len]; omega) (by rw [ranged_len]; omega)
    fun x _ n' ρ' B' S' hn' i' F' hB' => n_step os hn' i' F' (by omega)
  rw [ranged_len] at i7 F6
  obtain ⟨s3, fs, s9, s10, s11, s12, s13, rfl, h3, hl, hf, hnd⟩ := i7
  refine ⟨fs, S6, ?_, hf, by omega, hnd, F6.mono (by omega)⟩
  have T4 : (sPar [4, 5, 6] (mD (eCall f__law_draw (aC (eV 0) (aC (eC (.int 3)) aN))) (mD (eCall f__law_draw (aC (eV 0) (aC (eC (.int 7)) aN))) (mO (lDisp aN) mN)))) [.d (.obj 0), .d (.int many), .d (.str SG), .own wds, .un, .un, .un, .un, .un, .un, .un, .un, .un, .un] S = some (.nx ρ4, S2) := by
    simp only [runDef, sSeq, sNil, sRet, sIf, sSet, sSetL, sExt, sApp, sPar, sFreeze, sDrop, eC, eV, eP, e1, e2, l2, eL, aN, aC, aG, aGL, tOf, tAndJ, tOrJ, tNotJ, eAnd, eOr, eNot, eIf, eCh, tTru, gTru, eTup, lDisp, iOf, J.items?, iRg1, iRg2, cYes, bName, bTup, bCons, bNil, mN, mD, mO, setsS, eCall, gIsi, gIsi2, isT_tt, gLen, gI0, gLe_i, gGe_i, gGt_i, gLt_i, gAdd_i,  gListL, gTuple, eSl, oN, oS, List.map_cons, List.map_nil, List.map, List.replicate, List.length_cons, List.length_nil, List.nil_append, List.cons_append, List.append_nil, List.set_cons_zero, List.set_cons_succ, List.set, List.length, List.getElem?_cons_zero, List.getElem?_cons_succ, Nat.sub, Nat.reduceSub, Nat.reduceAdd, Nat.reduceLT, Nat.reduceLeDiff, List.getElem?_nil, Bool.false_eq_true, if_true, if_false, Bool.true_and, Bool.false_and, Bool.and_true, Bool.and_false, Bool.not_true, Bool.not_false, Bool.true_or, Bool.or_true, Bool.or_false, Bool.false_or, wipeE, sPar, e1, q2, if_pos (sz (k := 0))]
    rfl
  have T5 : (sSet (e2 gAdd (e2 gIx (eP 2) (eCall f__law_draw (aC (eV 0) (aC (eC (.int 26)) aN)))) (e2 gJoin (eC (.str ("" : Str))) (eL (lComp [9] (iRg1 (aC (eP 5) aN)) (bName 9) cYes (eCall f__law_pick (aC (eV 0) (aC (eV 2) aN))))))) (bName 7)) ρ4 S2 = some (.nx (ρ4.set 7 (.d (.str (c ++ z)))), S4) := by
    have A : J.e2 gIx (eP 2) (eCall f__law_draw (aC (eV 0) (aC (eC (.int 26)) aN))) ρ4 S2 = some (.str c, S3) := e2_at rfl (show eCall f__law_draw (aC (eV 0) (aC (eC (.int 26)) aN)) ρ4 S2 = some (.int v, S3) from e3) I1
    exact set_at (e2_at A (e2_at (show eC (.str "") ρ4 S3 = some (.str "", S3) from rfl) (eL_at C) J1) (gAdd_s (by omega)))
  have T6 : (sSet (e2 gAdd (eC (.int 1)) (eCall f__law_draw (aC (eV 0) (aC (e2 gAdd (eP 5) (eC (.int 1))) aN)))) (bName 8)) (ρ4.set 7 (.d (.str (c ++ z)))) S4 = some (.nx ρ6, S5) :=
    set_at (i := 8) (e2_at (show eC (.int 1) (ρ4.set 7 (.d (.str (c ++ z)))) S4 = some (.int 1, S4) from rfl) (show eCall f__law_draw (aC (eV 0) (aC (J.e2 gAdd (eP 5) (eC (.int 1))) aN)) (ρ4.set 7 (.d (.str (c ++ z)))) S4 = some (.int w, S5) from e5) (gAdd_i 1 w))
  have T7 : sFor (iRg1 (aC (eP 1) aN)) (bName 9) (sSeq N1 (sSeq N2 (sSeq N3 (sSeq N4 (sApp 6 (eV 10)))))) ρ6 S5 = some (.nx (nE many way n (1 + w) (c ++ z) s3 (fs.map D.str) s9 s10 s11 s12 s13), S6) := by
    have l7 : iRg1 (aC (eP 1) aN) ρ6 S5 = some (ranged 0 many, S5) := rg1_at (r := aC (eP 1) aN) (ρ := ρ6) (S := S5) (n := many) rfl (by omega)
    exact for_at l7 e6
  have T8 : sFreeze 6 (sRet (eV 6)) (nE many way n (1 + w) (c ++ z) s3 (fs.map D.str) s9 s10 s11 s12 s13) S6 = some (.rt (.lst (fs.map D.str)), S6) := rfl
  have T2 : (sSetL 3 (lDisp (aC (eC (.str ("source" : Str))) (aC (eC (.str ("party" : Str))) (aC (eC (.str ("unlike" : Str))) (aC (eC (.str ("build" : Str))) (aC (eC (.str ("steady" : Str))) (aC (eC (.str ("loose" : Str))) (aC (eC (.str ("n0" : Str))) (aC (eC (.str ("n10" : Str))) (aC (eC (.str ("n9" : Str))) aN))))))))))) [.d (.obj 0), .d (.int many), .d (.str SG), .un, .un, .un, .un, .un, .un, .un, .un, .un, .un, .un] S = some (.nx [.d (.obj 0), .d (.int many), .d (.str SG), .own (wds.take 9), .un, .un, .un, .un, .un, .un, .un, .un, .un, .un], S) := by
    simp only [runDef, sSeq, sNil, sRet, sIf, sSet, sSetL, sExt, sApp, sPar, sFreeze, sDrop, eC, eV, eP, e1, e2, l2, eL, aN, aC, aG, aGL, tOf, tAndJ, tOrJ, tNotJ, eAnd, eOr, eNot, eIf, eCh, tTru, gTru, eTup, lDisp, iOf, J.items?, iRg1, iRg2, cYes, bName, bTup, bCons, bNil, mN, mD, mO, setsS, eCall, gIsi, gIsi2, isT_tt, gLen, gI0, gLe_i, gGe_i, gGt_i, gLt_i, gAdd_i,  gListL, gTuple, eSl, oN, oS, List.map_cons, List.map_nil, List.map, List.replicate, List.length_cons, List.length_nil, List.nil_append, List.cons_append, List.append_nil, List.set_cons_zero, List.set_cons_succ, List.set, List.length, List.getElem?_cons_zero, List.getElem?_cons_succ, Nat.sub, Nat.reduceSub, Nat.reduceAdd, Nat.reduceLT, Nat.reduceLeDiff, List.getElem?_nil, Bool.false_eq_true, if_true, if_false, Bool.true_and, Bool.false_and, Bool.and_true, Bool.and_false, Bool.not_true, Bool.not_false, Bool.true_or, Bool.or_true, Bool.or_false, Bool.false_or, wipeE, if_pos (sz (k := 9))]
    rfl
  have T3 : (sExt 3 (eL (lDisp (aC (eC (.str ("a" : Str))) (aC (eC (.str ("ab" : Str))) (aC (eC (.str ("abc" : Str))) (aC (eC (.str ("a0" : Str))) (aC (eC (.str ("z9" : Str))) aN)))))))) [.d (.obj 0), .d (.int many), .d (.str SG), .own (wds.take 9), .un, .un, .un, .un, .un, .un, .un, .un, .un, .un] S = some (.nx [.d (.obj 0), .d (.int many), .d (.str SG), .own wds, .un, .un, .un, .un, .un, .un, .un, .un, .un, .un], S) := by
    simp only [runDef, sSeq, sNil, sRet, sIf, sSet, sSetL, sExt, sApp, sPar, sFreeze, sDrop, eC, eV, eP, e1, e2, l2, eL, aN, aC, aG, aGL, tOf, tAndJ, tOrJ, tNotJ, eAnd, eOr, eNot, eIf, eCh, tTru, gTru, eTup, lDisp, iOf, J.items?, iRg1, iRg2, cYes, bName, bTup, bCons, bNil, mN, mD, mO, setsS, eCall, gIsi, gIsi2, isT_tt, gLen, gI0, gLe_i, gGe_i, gGt_i, gLt_i, gAdd_i,  gListL, gTuple, eSl, oN, oS, List.map_cons, List.map_nil, List.map, List.replicate, List.length_cons, List.length_nil, List.nil_append, List.cons_append, List.append_nil, List.set_cons_zero, List.set_cons_succ, List.set, List.length, List.getElem?_cons_zero, List.getElem?_cons_succ, Nat.sub, Nat.reduceSub, Nat.reduceAdd, Nat.reduceLT, Nat.reduceLeDiff, List.getElem?_nil, Bool.false_eq_true, if_true, if_false, Bool.true_and, Bool.false_and, Bool.and_true, Bool.and_false, Bool.not_true, Bool.not_false, Bool.true_or, Bool.or_true, Bool.or_false, Bool.false_or, wipeE, if_pos (sz (k := 5)), show (wds.take 9).length = 9 from rfl, if_pos (sz (k := 14))]
    rfl
  exact run_at ((seq_at (set_at (i := 2) rfl)).trans ((seq_at T2).trans ((seq_at T3).trans ((seq_at T4).trans ((seq_at T5).trans ((seq_at T6).trans ((seq_at T7).trans T8)))))))
end
end K04

set_option maxHeartbeats 4000000
namespace K04
open PySem PySem.Spec PyProof.Rows L2 J
theorem pow6 : gI CPow (fun i j => i ^ j.toNat) (.int 10) (.int 6) = some (.int (10 ^ 6)) := rfl
theorem pow53 : gI CPow (fun i j => i ^ j.toNat) (.int 10) (.int 53) = some (.int (10 ^ 53)) := rfl
section
variable {B : Int} {S : Store}
theorem weight_ok (F : Fd B S) (hB : B < 900000) : ∃ i S', f__law_weight [.obj 0] S = some (.int i, S') ∧ Fd (B + 3) S' := by
  obtain ⟨v, S1, e1, v0, v1, F1⟩ := draw_ok F (by omega) (m := 4) (by decide) (by decide)
  by_cases h : v = 0
  · obtain ⟨a, S2, q2, a0, a1, F2⟩ := draw_ok F1 (by omega) (m := 10 ^ 6) (by decide) (by decide)
    obtain ⟨b, S3, q3, b0, b1, F3⟩ := draw_ok F2 (by omega) (m := 10 ^ 6) (by decide) (by decide)
    have la : a.natAbs.log2 < 30 := log2_lt a0 (by omega) (by decide)
    have lb : ((10 : Int) ^ 53).natAbs.log2 < 200 := by decide
    refine ⟨1 + a * 10 ^ 53 + b, S3, ?_, F3.mono (by omega)⟩
    unfold f__law_weight g__law_weight
    simp only [runDef, sSeq, sNil, sRet, sIf, sSet, sSetL, sExt, sApp, sPar, sFreeze, sDrop, eC, eV, eP, e1, e2, l2, eL, aN, aC, aG, aGL, tOf, tAndJ, tOrJ, tNotJ, eAnd, eOr, eNot, eIf, eCh, tTru, gTru, eTup, lDisp, iOf, J.items?, iRg1, iRg2, cYes, bName, bTup, bCons, bNil, mN, mD, mO, setsS, eCall, gIsi, gIsi2, isT_tt, gLen, gI0, gLe_i, gGe_i, gGt_i, gLt_i, gAdd_i,  gListL, gTuple, eSl, oN, oS, List.map_cons, List.map_nil, List.map, List.replicate, List.length_cons, List.length_nil, List.nil_append, List.cons_append, List.append_nil, List.set_cons_zero, List.set_cons_succ, List.set, List.length, List.getElem?_cons_zero, List.getElem?_cons_succ, Nat.sub, Nat.reduceSub, Nat.reduceAdd, Nat.reduceLT, Nat.reduceLeDiff, List.getElem?_nil, Bool.false_eq_true, if_true, if_false, Bool.true_and, Bool.false_and, Bool.and_true, Bool.and_false, Bool.not_true, Bool.not_false, Bool.true_or, Bool.or_true, Bool.or_false, Bool.false_or, wipeE, e1, gEq_i, h, show ((0 : Int) == 0) = true from rfl, pow6, pow53, q2, q3, mul_i (show a.natAbs.log2 + ((10 : Int) ^ 53).natAbs.log2 < 1000000 by omega)]
  · obtain ⟨m, I, m0, m1⟩ : ∃ m, gIx (.lst [.int 3, .int 12, .int 1200]) (.int (v - 1)) = some (.int m) ∧ 0 < m ∧ m < 2000 := by
      have : v = 1 ∨ v = 2 ∨ v = 3 := by omega
      rcases this with rfl | rfl | rfl
      · exact ⟨3, rfl, by decide, by decide⟩
      · exact ⟨12, rfl, by decide, by decide⟩
      · exact ⟨1200, rfl, by decide, by decide⟩
    obtain ⟨b, S3, q3, b0, b1, F3⟩ := draw_ok F1 (by omega) (m := m) m0 (log_small (by omega) (by omega))
    refine ⟨1 + b, S3, ?_, F3.mono (by omega)⟩
    unfold f__law_weight g__law_weight
    simp only [runDef, sSeq, sNil, sRet, sIf, sSet, sSetL, sExt, sApp, sPar, sFreeze, sDrop, eC, eV, eP, e1, e2, l2, eL, aN, aC, aG, aGL, tOf, tAndJ, tOrJ, tNotJ, eAnd, eOr, eNot, eIf, eCh, tTru, gTru, eTup, lDisp, iOf, J.items?, iRg1, iRg2, cYes, bName, bTup, bCons, bNil, mN, mD, mO, setsS, eCall, gIsi, gIsi2, isT_tt, gLen, gI0, gLe_i, gGe_i, gGt_i, gLt_i, gAdd_i,  gListL, gTuple, eSl, oN, oS, List.map_cons, List.map_nil, List.map, List.replicate, List.length_cons, List.length_nil, List.nil_append, List.cons_append, List.append_nil, List.set_cons_zero, List.set_cons_succ, List.set, List.length, List.getElem?_cons_zero, List.getElem?_cons_succ, Nat.sub, Nat.reduceSub, Nat.reduceAdd, Nat.reduceLT, Nat.reduceLeDiff, List.getElem?_nil, Bool.false_eq_true, if_true, if_false, Bool.true_and, Bool.false_and, Bool.and_true, Bool.and_false, Bool.not_true, Bool.not_false, Bool.true_or, Bool.or_true, Bool.or_false, Bool.false_or, wipeE, e1, gEq_i, beq_eq_false_iff_ne.mpr h, if_pos (sz (k := 3)), I, q3]
/-! ### sources -/
def sE (ns ts ks : List D) (found : List D) (a b c d e f g h i : Slot) : J.Env := [.d (.obj 0), .d (.lst ns), .d (.lst ts), .d (.lst ks), .own found, a, b, c, d, e, f, g, h, i]
structure SRow where
  nm : Str
  lang : Str
  sp : List Str
  st : Bool
  us : List Str
def SRow.d (r : SRow) : D := .tup [.str r.nm, .str r.lang, .tup (r.sp.map D.str), .bl r.st, .tup (r.us.map D.str)]
structure SRow.ok (N : List D) (r : SRow) : Prop where
  n : okS 40 r.nm
  l : okS 40 r.lang
  s : ∀ x ∈ r.sp, okS 40 x
  sz : r.sp.length ≤ 5
  u : ∀ x ∈ r.us, D.str x ∈ N
  uk : ∀ x ∈ r.us, okS 40 x
  und : r.us.Nodup
  uz : r.us.length ≤ 5
def srow (d : D) : Prop := ∃ a b sp s us, d = .tup [.str a, .str b, .tup sp, .bl s, .tup us] ∧ okS 40 a ∧ okS 40 b ∧ (∀ x ∈ sp, isStr 40 x) ∧ (∀ x ∈ us, isStr 40 x) ∧ sp.length ≤ 5 ∧ us.length ≤ 5
theorem srt_is {n : Nat} {ys : List Str} (h : ∀ z ∈ ys, okS n z) : ∀ d ∈ (srt (nub ys)).map D.str, isStr n d := fun d m => by
  obtain ⟨z, mz, rfl⟩ := List.mem_map.mp m
  exact ⟨z, rfl, h z (nub_mem.mp ((srt_perm _).mem_iff.mp mz))⟩
theorem sset_ok {n : Nat} {f : EX} {ρ : J.Env} {S0 S : Store} {ds : List D} (h : f ρ S0 = some (.lst ds, S)) (hs : ∀ d ∈ ds, isStr n d) (hz : ds.length ≤ 5) : ∃ ys, lSortedSet f ρ S0 = some (ys, S) ∧ (∀ y ∈ ys, isStr n y) ∧ ys.length ≤ 5 := by
  obtain ⟨zs, e, _, l, a⟩ := strs_all ds hs
  refine ⟨(srt (nub zs)).map D.str, ?_, srt_is a, ?_⟩
  · unfold lSortedSet
    rw [h]; simp only; rw [e]; simp only
    have := nub_len zs
    exact if_pos ⟨by omega, by omega⟩
  · rw [List.length_map, (srt_perm _).length_eq]
    have := nub_len zs
    omega
theorem srow_of {N : List D} {r : SRow} (o : r.ok N) : srow r.d := by
  refine ⟨_, _, _, _, _, rfl, o.n, o.l, fun x m => ?_, fun x m => ?_, by rw [List.length_map]; exact o.sz, by rw [List.length_map]; exact o.uz⟩
  · obtain ⟨z, mz, rfl⟩ := List.mem_map.mp m; exact ⟨z, rfl, o.s z mz⟩
  · obtain ⟨z, mz, rfl⟩ := List.mem_map.mp m; exact ⟨z, rfl, o.uk z mz⟩
theorem sset_m {n : Nat} {f : EX} {ρ : J.Env} {S0 S : Store} {ds : List D} (h : f ρ S0 = some (.lst ds, S)) (hs : ∀ d ∈ ds, isStr n d) (hz : ds.length ≤ 5) : ∃ ys : List Str, lSortedSet f ρ S0 = some (ys.map D.str, S) ∧ (∀ y ∈ ys, okS n y) ∧ (∀ y ∈ ys, D.str y ∈ ds) ∧ ys.Nodup ∧ ys.length ≤ 5 := by
  obtain ⟨zs, e, e2, l, a⟩ := strs_all ds hs
  have mm : ∀ y, y ∈ srt (nub zs) → y ∈ zs := fun y m => nub_mem.mp ((srt_perm _).mem_iff.mp m)
  refine ⟨srt (nub zs), ?_, fun y m => a y (mm y m), fun y m => by rw [e2]; exact List.mem_map.mpr ⟨y, mm y m, rfl⟩, (srt_perm _).nodup_iff.mpr (nub_nodup _), ?_⟩
  · unfold lSortedSet
    rw [h]; simp only; rw [e]; simp only
    have := nub_len zs
    exact if_pos ⟨by omega, by omega⟩
  · rw [(srt_perm _).length_eq]
    have := nub_len zs
    omega
/-- picks from a list of texts -/
theorem picks_l {n j i : Nat} {l : EL} {ρ : J.Env} {S S0 : Store} {xs ws : List D} {B : Int} (h0 : ρ[0]? = some (.d (.obj 0))) (hi : ρ[i]? = some (.d (.lst ws))) (j0 : j ≠ 0) (ji : j ≠ i) (hl : l ρ S0 = some (xs, S)) (hz : xs.length ≤ 100) (F : Fd B S) (hB : B + 100 ≤ 1000000000)
    (hw : ∀ d ∈ ws, isStr n d) (hne : xs ≠ [] → ws ≠ []) (hwz : ws.length ≤ 5000) :
    ∃ ys S', lComp [j] l (bName j) cYes (eCall f__law_pick (aC (eV 0) (aC (eV i) aN))) ρ S0 = some (ys, S') ∧ (∀ y ∈ ys, y ∈ ws) ∧ ys.length ≤ xs.length ∧ Fd (B + 1 * xs.length) S' := by
  refine lComp_inv (P := fun y => y ∈ ws) (k := 1) (N := B + 1 * xs.length) (by decide) hl (by omega) F (Int.le_refl _) fun x mx B' S' F' hB' => ?_
  obtain ⟨y, S2, e, my, F2⟩ := pick_l F' (show B' < 1000000000 by omega) (hne fun z => by rw [z] at mx; simp at mx) (Nat.le_trans hwz (by decide))
  refine ⟨_, rfl, true, S', rfl, F'.mono (by omega), fun _ => ⟨y, S2, ?_, my, F2⟩⟩
  have e0 : ((wipeE ρ [j]).set j (.d x))[0]? = some (.d (.obj 0)) := by
    simp only [wipeE]
    rw [List.getElem?_set_ne j0, List.getElem?_set_ne j0]; exact h0
  have e2' : ((wipeE ρ [j]).set j (.d x))[i]? = some (.d (.lst ws)) := by
    simp only [wipeE]
    rw [List.getElem?_set_ne ji, List.getElem?_set_ne ji]; exact hi
  simp only [eCall, aC, eV, aN, e0, e2', e]
theorem lComp_some {P : D → Prop} {vs : List Nat} {l : EL} {bd : BD} {cond : ET} {elt : EX} {ρ : J.Env} {S S0 : Store} {xs : List D} (hl : l ρ S0 = some (xs, S)) (hz : xs.length ≤ 5000)
    (h : ∀ x ∈ xs, ∃ ρ1, bd x (wipeE ρ vs) = some ρ1 ∧ ∃ b, cond ρ1 S = some (b, S) ∧ (b = true → ∃ y, elt ρ1 S = some (y, S) ∧ P y)) :
    ∃ ys, lComp vs l bd cond elt ρ S0 = some (ys, S) ∧ (∀ y ∈ ys, P y) ∧ ys.length ≤ xs.length := by
  have go : ∀ xs : List D, (∀ x ∈ xs, ∃ ρ1, bd x (wipeE ρ vs) = some ρ1 ∧ ∃ b, cond ρ1 S = some (b, S) ∧ (b = true → ∃ y, elt ρ1 S = some (y, S) ∧ P y)) → ∃ ys, lcGo bd cond elt (wipeE ρ vs) xs S = some (ys, S) ∧ (∀ y ∈ ys, P y) ∧ ys.length ≤ xs.length := by
    intro xs
    induction xs with
    | nil => intro _; exact ⟨[], rfl, fun y m => by simp at m, Nat.le_refl _⟩
    | cons x r ih =>
      intro h
      obtain ⟨ys, g1, g2, g3⟩ := ih fun y m => h y (List.mem_cons_of_mem _ m)
      obtain ⟨ρ1, h1, b, h2, h3⟩ := h x List.mem_cons_self
      rw [lcGo, h1]
      cases b with
      | false =>
        simp only [h2]
        exact ⟨ys, g1, g2, by rw [List.length_cons]; omega⟩
      | true =>
        obtain ⟨y, h4, py⟩ := h3 rfl
        simp only [h2, h4, g1]
        exact ⟨y :: ys, rfl, fun z m => (List.mem_cons.mp m).elim (fun e => by rw [e]; exact py) (g2 z), by rw [List.length_cons, List.length_cons]; omega⟩
  obtain ⟨ys, g1, g2, g3⟩ := go xs h
  refine ⟨ys, ?_, g2, g3⟩
  unfold lComp
  rw [hl]; simp only; rw [g1]
  exact if_pos (by rw [sizeLine_eq]; omega)
theorem tup_at {f : EX} {ρ : J.Env} {S S1 : Store} {xs : List D} (h : f ρ S = some (.lst xs, S1)) : aG gTuple (aC f aN) ρ S = some (.tup xs, S1) := by
  simp only [aG, aC, aN, h, gTuple]
theorem lcGo_each {P : D → Prop} {bd : BD} {elt : EX} {ρ : J.Env} {k N : Int} (hk : 0 ≤ k) : ∀ (xs : List D) (B : Int) (S : Store), Fd B S → B + k * xs.length ≤ N →
    (∀ x ∈ xs, ∀ (B : Int) (S : Store), Fd B S → B + k ≤ N → ∃ ρ1, bd x ρ = some ρ1 ∧ ∃ y S2, elt ρ1 S = some (y, S2) ∧ P y ∧ Fd (B + k) S2) →
    ∃ ys S', lcGo bd cYes elt ρ xs S = some (ys, S') ∧ (∀ y ∈ ys, P y) ∧ ys.length = xs.length ∧ Fd (B + k * xs.length) S'
  | [], B, S, F, hN, h => ⟨[], S, rfl, fun y m => by simp at m, rfl, F.mono (by simp)⟩
  | x :: r, B, S, F, hN, h => by
    have e : k * ((x :: r).length : Int) = k + k * (r.length : Int) := by
      rw [List.length_cons]
      have : (((r.length + 1 : Nat)) : Int) = (r.length : Int) + 1 := by omega
      rw [this, Int.mul_add, Int.mul_one]; omega
    have pos : 0 ≤ k * (r.length : Int) := Int.mul_nonneg hk (by omega)
    obtain ⟨ρ1, h1, y, S2, h4, py, F2⟩ := h x List.mem_cons_self B S F (by omega)
    obtain ⟨ys, S', g1, g2, g3, g4⟩ := lcGo_each hk r (B + k) S2 F2 (by omega) fun y m => h y (List.mem_cons_of_mem _ m)
    rw [lcGo, h1]
    simp only [cYes, h4]
    simp only [g1]
    exact ⟨y :: ys, S', rfl, fun z m => (List.mem_cons.mp m).elim (fun e => by rw [e]; exact py) (g2 z), by rw [List.length_cons, List.length_cons, g3], g4.mono (by omega)⟩
theorem lComp_each {P : D → Prop} {vs : List Nat} {l : EL} {bd : BD} {elt : EX} {ρ : J.Env} {S S0 : Store} {xs : List D} {k N B : Int} (hk : 0 ≤ k) (hl : l ρ S0 = some (xs, S)) (hz : xs.length ≤ 5000) (F : Fd B S) (hN : B + k * xs.length ≤ N)
    (h : ∀ x ∈ xs, ∀ (B : Int) (S : Store), Fd B S → B + k ≤ N → ∃ ρ1, bd x (wipeE ρ vs) = some ρ1 ∧ ∃ y S2, elt ρ1 S = some (y, S2) ∧ P y ∧ Fd (B + k) S2) :
    ∃ ys S', lComp vs l bd cYes elt ρ S0 = some (ys, S') ∧ (∀ y ∈ ys, P y) ∧ ys.length = xs.length ∧ Fd (B + k * xs.length) S' := by
  obtain ⟨ys, S', g1, g2, g3, g4⟩ := lcGo_each hk xs B S F hN h
  refine ⟨ys, S', ?_, g2, g3, g4⟩
  unfold lComp
  rw [hl]; simp only; rw [g1]
  exact if_pos (by rw [sizeLine_eq]; omega)
def S1g : GS := (sSet (eL (lComp [12] (iRg1 (aC (aG gLen (aC (eP 1) aN)) aN)) (bName 12) (tOf (e2 gLt (eTup (aC (e2 gIx (eP 3) (eP 12)) (aC (eV 12) aN))) (eTup (aC (e2 gIx (eP 3) (eP 5)) (aC (eV 5) aN))))) (e2 gIx (eP 1) (eP 12)))) (bName 7))
def S2g : GS := (sSet (eIf (tOf (e2 (gEq true) (eP 7) (eL (lDisp aN)))) (eCall f__law_draw (aC (eV 0) (aC (eC (.int 4)) aN))) (eC (.int 0))) (bName 8))
def S3g : GS := (sSet (aG gTuple (aC (eL (lSortedSet (eL (lComp [13] (iRg1 (aC (eP 8) aN)) (bName 13) cYes (eCall f__law_pick (aC (eV 0) (aC (eV 7) aN))))))) aN)) (bName 9))
def S4g : GS := (sSet (aG gTuple (aC (eL (lSortedSet (eL (lComp [13] (iRg1 (aC (eCall f__law_draw (aC (eV 0) (aC (eC (.int 3)) aN))) aN)) (bName 13) cYes (eCall f__law_pick (aC (eV 0) (aC (eV 2) aN))))))) aN)) (bName 10))
def S5g : GS := (sSet (e2 gGt (eCall f__law_draw (aC (eV 0) (aC (eC (.int 3)) aN))) (eC (.int 0))) (bName 11))
def S6g : GS := (sApp 4 (eTup (aC (eV 6) (aC (eCall f__law_pick (aC (eV 0) (aC (eV 2) aN))) (aC (eV 10) (aC (eV 11) (aC (eV 9) aN)))))))
variable {ns ts found : List D} {ks : List Int} {a b c d e f g h i : Slot} {k : Nat} {nm : Str}
theorem gIx_lk {xs : List D} {k : Nat} (h : k < xs.length) : gIx (.lst xs) (.int (k : Int)) = some xs[k] := by
  show atI xs (k : Int) = _
  rw [atI_nat, List.getElem?_eq_getElem h]
theorem gTuple_l (xs : List D) : gTuple [.lst xs] = some (.tup xs) := rfl
theorem lt_pairs (x y z w : Int) : gLt (.tup [.int x, .int y]) (.tup [.int z, .int w]) = some (.bl (HT.lexLt [x, y] [z, w])) := rfl
theorem s1_ok (F : Fd B S) (hn : ∀ x ∈ ns, isStr 40 x) (hz : ns.length ≤ 10) (hk : ks.length = ns.length) (k5 : k < ns.length) :
    ∃ lower, S1g (sE ns ts (ks.map D.int) found (.d (.int (k : Int))) b c d e f g h i) S = some (.nx (sE ns ts (ks.map D.int) found (.d (.int (k : Int))) b (.d (.lst lower)) d e f g h i), S) ∧ (∀ x ∈ lower, x ∈ ns) ∧ lower.length ≤ 10 := by
  have L : iRg1 (aC (aG gLen (aC (eP 1) aN)) aN) (sE ns ts (ks.map D.int) found (.d (.int (k : Int))) b c d e f g h i) S = some (ranged 0 ns.length, S) := rg1_at (n := ns.length) rfl (by omega)
  obtain ⟨lower, C, o, l⟩ := lComp_some (P := fun x => x ∈ ns) (vs := [12]) (bd := bName 12) (cond := tOf (e2 gLt (eTup (aC (e2 gIx (eP 3) (eP 12)) (aC (eV 12) aN))) (eTup (aC (e2 gIx (eP 3) (eP 5)) (aC (eV 5) aN))))) (elt := e2 gIx (eP 1) (eP 12)) L (by rw [ranged_len]; omega) fun x mx => by
    unfold ranged at mx
    obtain ⟨j, mj, rfl⟩ := List.mem_map.mp mx
    have mj := List.mem_range.mp mj
    rw [show (0 : Int) + (j : Int) = (j : Int) by omega]
    have i1 : gIx (.lst (ks.map D.int)) (.int (j : Int)) = some (.int (ks[j]'(by omega))) := by
      rw [gIx_lk (xs := ks.map D.int) (k := j) (by rw [List.length_map]; omega), List.getElem_map]
    have i2 : gIx (.lst (ks.map D.int)) (.int (k : Int)) = some (.int (ks[k]'(by omega))) := by
      rw [gIx_lk (xs := ks.map D.int) (k := k) (by rw [List.length_map]; omega), List.getElem_map]
    have i3 : gIx (.lst ns) (.int (j : Int)) = some (ns[j]) := gIx_lk mj
    refine ⟨_, rfl, HT.lexLt [ks[j]'(by omega), (j : Int)] [ks[k]'(by omega), (k : Int)], ?_, fun _ => ⟨ns[j], ?_, List.getElem_mem mj⟩⟩
    · unfold sE
      simp only [runDef, sSeq, sNil, sRet, sIf, sSet, sSetL, sExt, sApp, sPar, sFreeze, sDrop, eC, eV, eP, e1, e2, l2, eL, aN, aC, aG, aGL, tOf, tAndJ, tOrJ, tNotJ, eAnd, eOr, eNot, eIf, eCh, tTru, gTru, eTup, lDisp, iOf, J.items?, iRg1, iRg2, cYes, bName, bTup, bCons, bNil, mN, mD, mO, setsS, eCall, gIsi, gIsi2, isT_tt, gLen, gI0, gLe_i, gGe_i, gGt_i, gLt_i, gAdd_i,  gListL, gTuple, eSl, oN, oS, List.map_cons, List.map_nil, List.map, List.replicate, List.length_cons, List.length_nil, List.nil_append, List.cons_append, List.append_nil, List.set_cons_zero, List.set_cons_succ, List.set, List.length, List.getElem?_cons_zero, List.getElem?_cons_succ, Nat.sub, Nat.reduceSub, Nat.reduceAdd, Nat.reduceLT, Nat.reduceLeDiff, List.getElem?_nil, Bool.false_eq_true, if_true, if_false, Bool.true_and, Bool.false_and, Bool.and_true, Bool.and_false, Bool.not_true, Bool.not_false, Bool.true_or, Bool.or_true, Bool.or_false, Bool.false_or, wipeE, i1, i2, lt_pairs, if_pos (sz (k := 2))]
    · unfold sE
      simp only [runDef, sSeq, sNil, sRet, sIf, sSet, sSetL, sExt, sApp, sPar, sFreeze, sDrop, eC, eV, eP, e1, e2, l2, eL, aN, aC, aG, aGL, tOf, tAndJ, tOrJ, tNotJ, eAnd, eOr, eNot, eIf, eCh, tTru, gTru, eTup, lDisp, iOf, J.items?, iRg1, iRg2, cYes, bName, bTup, bCons, bNil, mN, mD, mO, setsS, eCall, gIsi, gIsi2, isT_tt, gLen, gI0, gLe_i, gGe_i, gGt_i, gLt_i, gAdd_i,  gListL, gTuple, eSl, oN, oS, List.map_cons, List.map_nil, List.map, List.replicate, List.length_cons, List.length_nil, List.nil_append, List.cons_append, List.append_nil, List.set_cons_zero, List.set_cons_succ, List.set, List.length, List.getElem?_cons_zero, List.getElem?_cons_succ, Nat.sub, Nat.reduceSub, Nat.reduceAdd, Nat.reduceLT, Nat.reduceLeDiff, List.getElem?_nil, Bool.false_eq_true, if_true, if_false, Bool.true_and, Bool.false_and, Bool.and_true, Bool.and_false, Bool.not_true, Bool.not_false, Bool.true_or, Bool.or_true, Bool.or_false, Bool.false_or, wipeE, i3]
  rw [ranged_len] at l
  exact ⟨lower, set_at (i := 7) (eL_at C), o, by omega⟩
theorem s2_ok {lower : List D} (F : Fd B S) (hB : B < 900000) (hn : ∀ x ∈ lower, isStr 40 x) : ∃ n S', S2g (sE ns ts (ks.map D.int) found a b (.d (.lst lower)) d e f g h i) S = some (.nx (sE ns ts (ks.map D.int) found a b (.d (.lst lower)) (.d (.int ((n : Nat) : Int))) e f g h i), S') ∧ n ≤ 3 ∧ (n ≠ 0 → lower ≠ []) ∧ Fd (B + 1) S' := by
  have N := gEq_nil (neg := true) (str_goods hn (by decide)) (str_dpts hn)
  cases lower with
  | nil =>
    refine ⟨0, S, ?_, by decide, fun z => absurd rfl z, F.mono (by omega)⟩
    simp only [List.isEmpty, Bool.not_true, if_true] at N
    unfold S2g sE
    simp only [runDef, sSeq, sNil, sRet, sIf, sSet, sSetL, sExt, sApp, sPar, sFreeze, sDrop, eC, eV, eP, e1, e2, l2, eL, aN, aC, aG, aGL, tOf, tAndJ, tOrJ, tNotJ, eAnd, eOr, eNot, eIf, eCh, tTru, gTru, eTup, lDisp, iOf, J.items?, iRg1, iRg2, cYes, bName, bTup, bCons, bNil, mN, mD, mO, setsS, eCall, gIsi, gIsi2, isT_tt, gLen, gI0, gLe_i, gGe_i, gGt_i, gLt_i, gAdd_i,  gListL, gTuple, eSl, oN, oS, List.map_cons, List.map_nil, List.map, List.replicate, List.length_cons, List.length_nil, List.nil_append, List.cons_append, List.append_nil, List.set_cons_zero, List.set_cons_succ, List.set, List.length, List.getElem?_cons_zero, List.getElem?_cons_succ, Nat.sub, Nat.reduceSub, Nat.reduceAdd, Nat.reduceLT, Nat.reduceLeDiff, List.getElem?_nil, Bool.false_eq_true, if_true, if_false, Bool.true_and, Bool.false_and, Bool.and_true, Bool.and_false, Bool.not_true, Bool.not_false, Bool.true_or, Bool.or_true, Bool.or_false, Bool.false_or, wipeE, N, if_pos (sz (k := 0))]
    rfl
  | cons x r =>
    obtain ⟨v, S1, q1, v0, v1, F1⟩ := draw_ok F (by omega) (m := 4) (by decide) (by decide)
    obtain ⟨n, rfl⟩ : ∃ n : Nat, v = (n : Int) := ⟨_, (Int.toNat_of_nonneg v0).symm⟩
    refine ⟨n, S1, ?_, by omega, fun _ => List.cons_ne_nil _ _, F1⟩
    simp only [List.isEmpty, Bool.not_false, if_true] at N
    unfold S2g sE
    simp only [runDef, sSeq, sNil, sRet, sIf, sSet, sSetL, sExt, sApp, sPar, sFreeze, sDrop, eC, eV, eP, e1, e2, l2, eL, aN, aC, aG, aGL, tOf, tAndJ, tOrJ, tNotJ, eAnd, eOr, eNot, eIf, eCh, tTru, gTru, eTup, lDisp, iOf, J.items?, iRg1, iRg2, cYes, bName, bTup, bCons, bNil, mN, mD, mO, setsS, eCall, gIsi, gIsi2, isT_tt, gLen, gI0, gLe_i, gGe_i, gGt_i, gLt_i, gAdd_i,  gListL, gTuple, eSl, oN, oS, List.map_cons, List.map_nil, List.map, List.replicate, List.length_cons, List.length_nil, List.nil_append, List.cons_append, List.append_nil, List.set_cons_zero, List.set_cons_succ, List.set, List.length, List.getElem?_cons_zero, List.getElem?_cons_succ, Nat.sub, Nat.reduceSub, Nat.reduceAdd, Nat.reduceLT, Nat.reduceLeDiff, List.getElem?_nil, Bool.false_eq_true, if_true, if_false, Bool.true_and, Bool.false_and, Bool.and_true, Bool.and_false, Bool.not_true, Bool.not_false, Bool.true_or, Bool.or_true, Bool.or_false, Bool.false_or, wipeE, N, if_pos (sz (k := 0)), q1]
theorem s3_ok {lower : List D} {n : Nat} (F : Fd B S) (hB : B < 900000) (hn : ∀ x ∈ lower, isStr 40 x) (hz : lower.length ≤ 10) (n3 : n ≤ 3) (hne : n ≠ 0 → lower ≠ []) : ∃ (us : List Str) (S' : Store), S3g (sE ns ts (ks.map D.int) found a b (.d (.lst lower)) (.d (.int (n : Int))) e f g h i) S = some (.nx (sE ns ts (ks.map D.int) found a b (.d (.lst lower)) (.d (.int (n : Int))) (.d (.tup (us.map D.str))) f g h i), S') ∧ (∀ x ∈ us, okS 40 x) ∧ (∀ x ∈ us, D.str x ∈ lower) ∧ us.Nodup ∧ us.length ≤ 5 ∧ Fd (B + 3) S' := by
  obtain ⟨ys, S', C, o, l, F'⟩ := picks_l (j := 13) (i := 7) (n := 40) (l := iRg1 (aC (eP 8) aN)) (ρ := sE ns ts (ks.map D.int) found a b (.d (.lst lower)) (.d (.int (n : Int))) e f g h i) (S0 := S) rfl rfl (by decide) (by decide) (rg1_at (n := n) rfl (by omega)) (by rw [ranged_len]; omega) F (by omega) hn (fun z => hne fun q => z (by rw [q]; rfl)) (by omega)
  rw [ranged_len] at l F'
  obtain ⟨us, U, o2, o3, nd, l2⟩ := sset_m (eL_at C) (fun d m => hn d (o d m)) (by omega)
  refine ⟨us, S', set_at (i := 9) (tup_at (eL_at U)), o2, fun x m => o _ (o3 x m), nd, l2, F'.mono (by omega)⟩
theorem s4_ok (F : Fd B S) (hB : B < 900000) (hn : ∀ x ∈ ts, isStr 40 x) (hz : ts.length ≤ 10) (hne : ts ≠ []) : ∃ (us : List Str) (S' : Store), S4g (sE ns ts (ks.map D.int) found a b c d e f g h i) S = some (.nx (sE ns ts (ks.map D.int) found a b c d e (.d (.tup (us.map D.str))) g h i), S') ∧ (∀ x ∈ us, okS 40 x) ∧ us.length ≤ 5 ∧ Fd (B + 4) S' := by
  obtain ⟨v, S1, q1, v0, v1, F1⟩ := draw_ok F (by omega) (m := 3) (by decide) (by decide)
  obtain ⟨n, rfl⟩ : ∃ n : Nat, v = (n : Int) := ⟨_, (Int.toNat_of_nonneg v0).symm⟩
  have L : iRg1 (aC (eCall f__law_draw (aC (eV 0) (aC (eC (.int 3)) aN))) aN) (sE ns ts (ks.map D.int) found a b c d e f g h i) S = some (ranged 0 n, S1) := rg1_at (by unfold sE; simp only [runDef, sSeq, sNil, sRet, sIf, sSet, sSetL, sExt, sApp, sPar, sFreeze, sDrop, eC, eV, eP, e1, e2, l2, eL, aN, aC, aG, aGL, tOf, tAndJ, tOrJ, tNotJ, eAnd, eOr, eNot, eIf, eCh, tTru, gTru, eTup, lDisp, iOf, J.items?, iRg1, iRg2, cYes, bName, bTup, bCons, bNil, mN, mD, mO, setsS, eCall, gIsi, gIsi2, isT_tt, gLen, gI0, gLe_i, gGe_i, gGt_i, gLt_i, gAdd_i,  gListL, gTuple, eSl, oN, oS, List.map_cons, List.map_nil, List.map, List.replicate, List.length_cons, List.length_nil, List.nil_append, List.cons_append, List.append_nil, List.set_cons_zero, List.set_cons_succ, List.set, List.length, List.getElem?_cons_zero, List.getElem?_cons_succ, Nat.sub, Nat.reduceSub, Nat.reduceAdd, Nat.reduceLT, Nat.reduceLeDiff, List.getElem?_nil, Bool.false_eq_true, if_true, if_false, Bool.true_and, Bool.false_and, Bool.and_true, Bool.and_false, Bool.not_true, Bool.not_false, Bool.true_or, Bool.or_true, Bool.or_false, Bool.false_or, wipeE, q1]) (by omega)
  obtain ⟨ys, S', C, o, l, F'⟩ := picks_l (j := 13) (i := 2) (n := 40) (ρ := sE ns ts (ks.map D.int) found a b c d e f g h i) (S0 := S) rfl rfl (by decide) (by decide) L (by rw [ranged_len]; omega) F1 (by omega) hn (fun _ => hne) (by omega)
  rw [ranged_len] at l F'
  obtain ⟨us, U, o2, o3, nd, l2⟩ := sset_m (eL_at C) (fun d m => hn d (o d m)) (by omega)
  refine ⟨us, S', set_at (i := 10) (tup_at (eL_at U)), o2, l2, F'.mono (by omega)⟩
theorem s5_ok (F : Fd B S) (hB : B < 900000) : ∃ t S', S5g (sE ns ts (ks.map D.int) found a b c d e f g h i) S = some (.nx (sE ns ts (ks.map D.int) found a b c d e f (.d (.bl t)) h i), S') ∧ Fd (B + 1) S' := by
  obtain ⟨v, S1, q1, v0, v1, F1⟩ := draw_ok F (by omega) (m := 3) (by decide) (by decide)
  refine ⟨decide (0 < v), S1, ?_, F1⟩
  unfold S5g sE
  simp only [runDef, sSeq, sNil, sRet, sIf, sSet, sSetL, sExt, sApp, sPar, sFreeze, sDrop, eC, eV, eP, e1, e2, l2, eL, aN, aC, aG, aGL, tOf, tAndJ, tOrJ, tNotJ, eAnd, eOr, eNot, eIf, eCh, tTru, gTru, eTup, lDisp, iOf, J.items?, iRg1, iRg2, cYes, bName, bTup, bCons, bNil, mN, mD, mO, setsS, eCall, gIsi, gIsi2, isT_tt, gLen, gI0, gLe_i, gGe_i, gGt_i, gLt_i, gAdd_i,  gListL, gTuple, eSl, oN, oS, List.map_cons, List.map_nil, List.map, List.replicate, List.length_cons, List.length_nil, List.nil_append, List.cons_append, List.append_nil, List.set_cons_zero, List.set_cons_succ, List.set, List.length, List.getElem?_cons_zero, List.getElem?_cons_succ, Nat.sub, Nat.reduceSub, Nat.reduceAdd, Nat.reduceLT, Nat.reduceLeDiff, List.getElem?_nil, Bool.false_eq_true, if_true, if_false, Bool.true_and, Bool.false_and, Bool.and_true, Bool.and_false, Bool.not_true, Bool.not_false, Bool.true_or, Bool.or_true, Bool.or_false, Bool.false_or, wipeE, q1]
theorem s6_ok {us sp : List Str} {t : Bool} (F : Fd B S) (hB : B < 900000) (hn : ∀ x ∈ ts, isStr 40 x) (hz : ts.length ≤ 10) (hne : ts ≠ []) (hnm : okS 40 nm) (hf : found.length < 100) (o1 : ∀ x ∈ us, okS 40 x) (o1' : ∀ x ∈ us, D.str x ∈ ns) (nd : us.Nodup) (o2 : ∀ x ∈ sp, okS 40 x) (l1 : us.length ≤ 5) (l2 : sp.length ≤ 5) :
    ∃ (row : SRow) (S' : Store), S6g (sE ns ts (ks.map D.int) found a (.d (.str nm)) c d (.d (.tup (us.map D.str))) (.d (.tup (sp.map D.str))) (.d (.bl t)) h i) S = some (.nx (sE ns ts (ks.map D.int) (found ++ [SRow.d row]) a (.d (.str nm)) c d (.d (.tup (us.map D.str))) (.d (.tup (sp.map D.str))) (.d (.bl t)) h i), S') ∧ row.ok ns ∧ row.nm = nm ∧ Fd (B + 1) S' := by
  obtain ⟨x, S', q, mx, F'⟩ := pick_l F (show B < 1000000000 by omega) hne (by omega)
  obtain ⟨y, rfl, oy⟩ := hn x mx
  refine ⟨⟨nm, y, sp, t, us⟩, S', ?_, ⟨hnm, oy, o2, l2, o1', o1, nd, l1⟩, rfl, F'⟩
  unfold S6g sE SRow.d
  simp only [runDef, sSeq, sNil, sRet, sIf, sSet, sSetL, sExt, sApp, sPar, sFreeze, sDrop, eC, eV, eP, e1, e2, l2, eL, aN, aC, aG, aGL, tOf, tAndJ, tOrJ, tNotJ, eAnd, eOr, eNot, eIf, eCh, tTru, gTru, eTup, lDisp, iOf, J.items?, iRg1, iRg2, cYes, bName, bTup, bCons, bNil, mN, mD, mO, setsS, eCall, gIsi, gIsi2, isT_tt, gLen, gI0, gLe_i, gGe_i, gGt_i, gLt_i, gAdd_i,  gListL, gTuple, eSl, oN, oS, List.map_cons, List.map_nil, List.map, List.replicate, List.length_cons, List.length_nil, List.nil_append, List.cons_append, List.append_nil, List.set_cons_zero, List.set_cons_succ, List.set, List.length, List.getElem?_cons_zero, List.getElem?_cons_succ, Nat.sub, Nat.reduceSub, Nat.reduceAdd, Nat.reduceLT, Nat.reduceLeDiff, List.getElem?_nil, Bool.false_eq_true, if_true, if_false, Bool.true_and, Bool.false_and, Bool.and_true, Bool.and_false, Bool.not_true, Bool.not_false, Bool.true_or, Bool.or_true, Bool.or_false, Bool.false_or, wipeE, q, if_pos (sz (k := 5)), if_pos (show found.length < sizeLine by rw [sizeLine_eq]; omega)]
def sI (ns ts : List D) (ks : List Int) (n : Nat) (ρ : J.Env) : Prop := ∃ (found : List SRow) (a b c d e f g h i : Slot), ρ = sE ns ts (ks.map D.int) (found.map SRow.d) a b c d e f g h i ∧ found.map (fun r => D.str r.nm) = ns.take n ∧ ∀ r ∈ found, r.ok ns
theorem s_step {ρ : J.Env} (hn : ∀ x ∈ ns, isStr 40 x) (hz : ns.length ≤ 10) (hk : ks.length = ns.length) (ht : ∀ x ∈ ts, isStr 40 x) (tz : ts.length ≤ 10) (tne : ts ≠ []) (k5 : k < ns.length) (i : sI ns ts ks k ρ) (F : Fd B S) (hB : B < 800000) :
    ∃ ρ1, bTup 2 (bCons (bName 5) (bCons (bName 6) bNil)) (.tup [.int (k : Int), ns[k]]) ρ = some ρ1 ∧ ∃ ρ2 S2, sSeq S1g (sSeq S2g (sSeq S3g (sSeq S4g (sSeq S5g S6g)))) ρ1 S = some (.nx ρ2, S2) ∧ sI ns ts ks (k + 1) ρ2 ∧ Fd (B + 10) S2 := by
  obtain ⟨fR, a, b, c, d, e, f, g, h, i, rfl, hl, hr⟩ := i
  have lf : (fR.map SRow.d).length ≤ 10 := by
    have := congrArg List.length hl
    rw [List.length_map, List.length_take] at this
    rw [List.length_map]; omega
  generalize ef : fR.map SRow.d = found at *
  obtain ⟨nm, en, onm⟩ := hn ns[k] (List.getElem_mem k5)
  obtain ⟨lower, e1, o1, l1⟩ := s1_ok (ts := ts) (found := found) (b := .d ns[k]) (c := c) (d := d) (e := e) (f := f) (g := g) (h := h) (i := i) F hn hz hk k5
  obtain ⟨m, S2, e2, m3, mne, F2⟩ := s2_ok (ns := ns) (ts := ts) (ks := ks) (found := found) (a := .d (.int (k : Int))) (b := .d ns[k]) (d := d) (e := e) (f := f) (g := g) (h := h) (i := i) F (by omega) (fun x m => hn x (o1 x m))
  obtain ⟨us, S3, e3, o3, o3', nd3, l3, F3⟩ := s3_ok (ns := ns) (ts := ts) (ks := ks) (found := found) (a := .d (.int (k : Int))) (b := .d ns[k]) (e := e) (f := f) (g := g) (h := h) (i := i) F2 (by omega) (fun x m => hn x (o1 x m)) l1 m3 mne
  obtain ⟨sp, S4, e4, o4, l4, F4⟩ := s4_ok (ns := ns) (ks := ks) (found := found) (a := .d (.int (k : Int))) (b := .d ns[k]) (c := .d (.lst lower)) (d := .d (.int (m : Int))) (e := .d (.tup (us.map D.str))) (f := f) (g := g) (h := h) (i := i) F3 (by omega) ht tz tne
  obtain ⟨t, S5, e5, F5⟩ := s5_ok (ns := ns) (ts := ts) (ks := ks) (found := found) (a := .d (.int (k : Int))) (b := .d ns[k]) (c := .d (.lst lower)) (d := .d (.int (m : Int))) (e := .d (.tup (us.map D.str))) (f := .d (.tup (sp.map D.str))) (g := g) (h := h) (i := i) F4 (by omega)
  obtain ⟨row, S6, e6, o6, on6, F6⟩ := s6_ok (ns := ns) (ts := ts) (ks := ks) (found := found) (a := .d (.int (k : Int))) (nm := nm) (c := .d (.lst lower)) (d := .d (.int (m : Int))) (us := us) (sp := sp) (t := t) (h := h) (i := i) F5 (by omega) ht tz tne onm (by omega) o3 (fun x m => o1 _ (o3' x m)) nd3 o4 l3 l4
  refine ⟨sE ns ts (ks.map D.int) found (.d (.int (k : Int))) (.d ns[k]) c d e f g h i, rfl, sE ns ts (ks.map D.int) (found ++ [row.d]) (.d (.int (k : Int))) (.d (.str nm)) (.d (.lst lower)) (.d (.int (m : Int))) (.d (.tup (us.map D.str))) (.d (.tup (sp.map D.str))) (.d (.bl t)) h i, S6, ?_, ⟨fR ++ [row], _, _, _, _, _, _, _, _, _, by rw [List.map_append, ef]; rfl, by rw [List.map_append, hl, List.map_cons, List.map_nil, on6, ← en, List.take_append_getElem k5], fun r mr => (List.mem_append.mp mr).elim (hr r) fun mr => by rw [List.mem_singleton.mp mr]; exact o6⟩, F6.mono (by omega)⟩
  rw [en] at e1 e2 e3 e4 e5 ⊢
  exact (seq_at e1).trans ((seq_at e2).trans ((seq_at e3).trans ((seq_at e4).trans ((seq_at e5).trans e6))))
theorem sources_ok (F : Fd B S) (hB : B < 700000) (hn : ∀ x ∈ ns, isStr 40 x) (hz : ns.length ≤ 10) (ht : ∀ x ∈ ts, isStr 40 x) (tz : ts.length ≤ 10) (tne : ts ≠ []) :
    ∃ (rows : List SRow) (S' : Store), f__law_sources [.obj 0, .lst ns, .lst ts] S = some (.tup (rows.map SRow.d), S') ∧ (∀ r ∈ rows, r.ok ns) ∧ rows.map (fun r => D.str r.nm) = ns ∧ Fd (B + 200) S' := by
  -- the keys
  have K : ∃ (ks : List Int) (S1 : Store), lComp [6] (iOf (eP 1)) (bName 6) cYes (eCall f__law_draw (aC (eV 0) (aC (eC (.int 100)) aN))) ([.d (.obj 0), .d (.lst ns), .d (.lst ts)] ++ List.replicate 11 .un) S = some (ks.map D.int, S1) ∧ ks.length = ns.length ∧ Fd (B + 1 * ns.length) S1 := by
    obtain ⟨ys, S1, C, o, l, F1⟩ := lComp_each (P := fun d => ∃ i, d = D.int i) (k := 1) (N := B + 1 * ns.length) (vs := [6]) (l := iOf (eP 1)) (bd := bName 6) (elt := eCall f__law_draw (aC (eV 0) (aC (eC (.int 100)) aN))) (ρ := [.d (.obj 0), .d (.lst ns), .d (.lst ts)] ++ List.replicate 11 .un) (S0 := S) (S := S) (xs := ns) (by decide) rfl (by omega) F (Int.le_refl _) fun x _ B' S' F' hB' => by
      obtain ⟨v, S2, q, v0, v1, F2⟩ := draw_ok F' (show B' < 1000000000 by omega) (m := 100) (by decide) (by decide)
      exact ⟨_, rfl, .int v, S2, by
        show eCall f__law_draw (aC (eV 0) (aC (eC (.int 100)) aN)) [.d (.obj 0), .d (.lst ns), .d (.lst ts), .un, .un, .un, .d x, .un, .un, .un, .un, .un, .un, .un] S' = _
        simp only [runDef, sSeq, sNil, sRet, sIf, sSet, sSetL, sExt, sApp, sPar, sFreeze, sDrop, eC, eV, eP, e1, e2, l2, eL, aN, aC, aG, aGL, tOf, tAndJ, tOrJ, tNotJ, eAnd, eOr, eNot, eIf, eCh, tTru, gTru, eTup, lDisp, iOf, J.items?, iRg1, iRg2, cYes, bName, bTup, bCons, bNil, mN, mD, mO, setsS, eCall, gIsi, gIsi2, isT_tt, gLen, gI0, gLe_i, gGe_i, gGt_i, gLt_i, gAdd_i,  gListL, gTuple, eSl, oN, oS, List.map_cons, List.map_nil, List.map, List.replicate, List.length_cons, List.length_nil, List.nil_append, List.cons_append, List.append_nil, List.set_cons_zero, List.set_cons_succ, List.set, List.length, List.getElem?_cons_zero, List.getElem?_cons_succ, Nat.sub, Nat.reduceSub, Nat.reduceAdd, Nat.reduceLT, Nat.reduceLeDiff, List.getElem?_nil, Bool.false_eq_true, if_true, if_false, Bool.true_and, Bool.false_and, Bool.and_true, Bool.and_false, Bool.not_true, Bool.not_false, Bool.true_or, Bool.or_true, Bool.or_false, Bool.false_or, wipeE, q], ⟨v, rfl⟩, F2⟩
    have M : ∀ ys : List D, (∀ y ∈ ys, ∃ i, y = D.int i) → ∃ ks : List Int, ys = ks.map D.int := by
      intro ys
      induction ys with
      | nil => intro _; exact ⟨[], rfl⟩
      | cons y r ih =>
        intro h
        obtain ⟨i, rfl⟩ := h y List.mem_cons_self
        obtain ⟨ks, rfl⟩ := ih fun z m => h z (List.mem_cons_of_mem _ m)
        exact ⟨i :: ks, rfl⟩
    obtain ⟨ks, rfl⟩ := M ys o
    exact ⟨ks, S1, C, by rw [List.length_map] at l; exact l, F1⟩
  obtain ⟨ks, S1, C, lk, F1⟩ := K
  have i0 : sI ns ts ks 0 (sE ns ts (ks.map D.int) [] .un .un .un .un .un .un .un .un .un) := ⟨[], _, _, _, _, _, _, _, _, _, rfl, by rw [List.take_zero]; rfl, fun r m => by simp at m⟩
  have lc : (counted ns).length = ns.length := by unfold counted; rw [List.length_zipWith, List.length_range, Nat.min_self]
  obtain ⟨ρ7, S6, e6, i7, F6⟩ := forGo_ix (I := sI ns ts ks) (bd := bTup 2 (bCons (bName 5) (bCons (bName 6) bNil))) (body := sSeq S1g (sSeq S2g (sSeq S3g (sSeq S4g (sSeq S5g S6g))))) (k := 10) (N := 800000 - 1) (by decide) (counted ns) (counted ns).length 0 _ _ S1 (by omega) i0 F1 (by rw [lc]; omega)
    fun j hj ρ' B' S' i' F' hB' => by
      rw [lc] at hj
      have ex : (counted ns)[j]'(by rw [lc]; exact hj) = .tup [.int (j : Int), ns[j]] := by
        unfold counted
        rw [List.getElem_zipWith, List.getElem_range]
      rw [ex]
      exact s_step hn hz lk ht tz tne hj i' F' (by omega)
  rw [lc] at i7 F6
  obtain ⟨rows, a, b, c, d, e, f, g, h, i, rfl, hl, hr⟩ := i7
  refine ⟨rows, S6, ?_, hr, by rw [hl, List.take_of_length_le (Nat.le_refl _)], F6.mono (by omega)⟩
  have T1 : (sPar [3, 4] (mD (eL (lComp [6] (iOf (eP 1)) (bName 6) cYes (eCall f__law_draw (aC (eV 0) (aC (eC (.int 100)) aN))))) (mO (lDisp aN) mN))) ([.d (.obj 0), .d (.lst ns), .d (.lst ts)] ++ List.replicate 11 .un) S = some (.nx (sE ns ts (ks.map D.int) [] .un .un .un .un .un .un .un .un .un), S1) := by
    unfold sPar mD
    rw [eL_at C]
    rfl
  have T2 : sFor (iEn (aC (eV 1) aN)) (bTup 2 (bCons (bName 5) (bCons (bName 6) bNil))) (sSeq S1g (sSeq S2g (sSeq S3g (sSeq S4g (sSeq S5g S6g))))) (sE ns ts (ks.map D.int) [] .un .un .un .un .un .un .un .un .un) S1 = some (.nx (sE ns ts (ks.map D.int) (rows.map SRow.d) a b c d e f g h i), S6) := for_at (show iEn (aC (eV 1) aN) _ S1 = some (counted ns, S1) from rfl) e6
  have T3 : sRet (aG gTuple (aC (eP 4) aN)) (sE ns ts (ks.map D.int) (rows.map SRow.d) a b c d e f g h i) S6 = some (.rt (.tup (rows.map SRow.d)), S6) := ret_at (tup_at rfl)
  exact run_at ((seq_at T1).trans ((seq_at T2).trans T3))
end
end K04

set_option maxHeartbeats 4000000
namespace K04
open PySem PySem.Spec PyProof.Rows L2 J
def prow (d : D) : Prop := ∃ a i, d = .tup [.str a, .int i] ∧ okS 40 a
theorem isStr.good {n : Nat} {d : D} (h : isStr n d) (hn : n ≤ 1000) : J.good d = true := by obtain ⟨z, rfl, o⟩ := h; exact o.good hn
theorem isStr.dpt {n : Nat} {d : D} (h : isStr n d) : J.dpt d = 0 := by obtain ⟨z, rfl, o⟩ := h; rfl
mutual
def sm : D → Bool
  | .non => true
  | .bl _ => true
  | .int _ => true
  | .str z => z.cps.all (· < 0x110000) && decide (z.length ≤ 1000)
  | .lst xs => decide (xs.length ≤ 5000) && sms xs
  | .tup xs => decide (xs.length ≤ 5000) && sms xs
  | .frz _ => false
  | .obj _ => false
def sms : List D → Bool
  | [] => true
  | x :: r => sm x && sms r
end
theorem sms_all : ∀ xs : List D, sms xs = true ↔ ∀ x ∈ xs, sm x = true
  | [] => by simp [sms]
  | x :: r => by rw [sms, Bool.and_eq_true, sms_all r]; simp
mutual
theorem sm_good : ∀ d : D, sm d = true → J.good d = true
  | .non, _ => rfl
  | .bl _, _ => rfl
  | .int _, _ => rfl
  | .str z, h => by
    rw [sm, Bool.and_eq_true, decide_eq_true_eq] at h
    rw [J.good, Bool.and_eq_true, decide_eq_true_eq]
    exact ⟨h.1, Nat.le_trans h.2 (by decide)⟩
  | .lst xs, h => by
    rw [sm, Bool.and_eq_true, decide_eq_true_eq] at h
    rw [J.good, Bool.and_eq_true, decide_eq_true_eq]
    exact ⟨Nat.le_trans h.1 (by decide), sms_good xs h.2⟩
  | .tup xs, h => by
    rw [sm, Bool.and_eq_true, decide_eq_true_eq] at h
    rw [J.good, Bool.and_eq_true, decide_eq_true_eq]
    exact ⟨Nat.le_trans h.1 (by decide), sms_good xs h.2⟩
  | .frz _, h => by cases h
  | .obj _, h => by cases h
theorem sms_good : ∀ ds : List D, sms ds = true → goods ds = true
  | [], _ => rfl
  | x :: r, h => by
    rw [sms, Bool.and_eq_true] at h
    rw [goods, sm_good x h.1, sms_good r h.2]; rfl
end
def gd (n : Nat) (d : D) : Prop := sm d = true ∧ J.dpt d ≤ n
theorem gd_tup {n : Nat} {xs : List D} (hz : xs.length ≤ 5000) (h : ∀ x ∈ xs, gd n x) : gd (n + 1) (.tup xs) := by
  refine ⟨by rw [sm, Bool.and_eq_true, decide_eq_true_eq]; exact ⟨hz, (sms_all _).mpr fun x m => (h x m).1⟩, ?_⟩
  rw [J.dpt]
  exact Nat.succ_le_succ ((dpts_le _).mpr fun x m => (h x m).2)
theorem gd_lst {n : Nat} {xs : List D} (hz : xs.length ≤ 5000) (h : ∀ x ∈ xs, gd n x) : gd (n + 1) (.lst xs) := by
  refine ⟨by rw [sm, Bool.and_eq_true, decide_eq_true_eq]; exact ⟨hz, (sms_all _).mpr fun x m => (h x m).1⟩, ?_⟩
  rw [J.dpt]
  exact Nat.succ_le_succ ((dpts_le _).mpr fun x m => (h x m).2)
theorem gd_str {n m : Nat} {z : Str} (h : okS m z) (hm : m ≤ 1000) : gd n (.str z) := by
  refine ⟨?_, Nat.zero_le _⟩
  rw [sm, Bool.and_eq_true, decide_eq_true_eq]
  exact ⟨Array.all_eq_true'.mpr fun c m => decide_eq_true (h.1 c (by simpa using m)), Nat.le_trans h.2 hm⟩
theorem gd_non {n : Nat} : gd n .non := ⟨rfl, Nat.zero_le _⟩
theorem gd_bl {n : Nat} {b : Bool} : gd n (.bl b) := ⟨rfl, Nat.zero_le _⟩
theorem gd_int {n : Nat} {i : Int} : gd n (.int i) := ⟨rfl, Nat.zero_le _⟩
theorem isStr.gd {n m : Nat} {d : D} (h : isStr m d) (hm : m ≤ 1000) : K04.gd n d := by obtain ⟨z, rfl, o⟩ := h; exact gd_str o hm
theorem gd_five {n : Nat} {a b c d e : D} (ha : gd n a) (hb : gd n b) (hc : gd n c) (hd : gd n d) (he : gd n e) : gd (n + 1) (.tup [a, b, c, d, e]) := gd_tup (by simp) fun x m => by
  simp only [List.mem_cons, List.not_mem_nil, or_false] at m
  rcases m with rfl | rfl | rfl | rfl | rfl <;> assumption
theorem gd_two {n : Nat} {a b : D} (ha : gd n a) (hb : gd n b) : gd (n + 1) (.tup [a, b]) := gd_tup (by simp) fun x m => by
  simp only [List.mem_cons, List.not_mem_nil, or_false] at m
  rcases m with rfl | rfl <;> assumption
theorem gd_strs {n : Nat} {xs : List D} (h : ∀ d ∈ xs, isStr 40 d) (hz : xs.length ≤ 5000) : gd (n + 1) (.tup xs) := gd_tup hz fun x m => (h x m).gd (by decide)
def tg (n : Nat) (d : D) : Prop := ∃ xs, d = .tup xs ∧ gd n d
structure Bld where
  by_ : Str
  comp : Option Str
  src : Str
  given : List Str
  last : Str
def Bld.c (b : Bld) : D := match b.comp with | none => .non | some z => .str z
def Bld.d (b : Bld) : D := .tup [.str b.by_, b.c, .str b.src, .tup (b.given.map D.str), .str b.last]
structure Bld.ok (b : Bld) : Prop where
  y : okS 40 b.by_
  c : ∀ z ∈ b.comp, okS 40 z
  s : okS 40 b.src
  g : ∀ z ∈ b.given, okS 40 z
  gz : b.given.length ≤ 5
  l : okS 40 b.last
  n : b.comp = none → b.given = []
def Bld.ls (b : Bld) : List Str := b.given ++ [b.last] ++ b.comp.toList
def Bld.inn (bl : List D) (b : Bld) : Prop := ∀ z ∈ b.ls, D.str z ∈ bl
theorem Bld.tg {b : Bld} (o : b.ok) : tg 2 b.d := by
  refine ⟨_, rfl, gd_five (n := 1) (gd_str o.y (by decide)) ?_ (gd_str o.s (by decide)) (gd_strs (fun d m => ?_) (by rw [List.length_map]; have := o.gz; omega)) (gd_str o.l (by decide))⟩
  · unfold Bld.c
    split
    · exact gd_non
    · rename_i z e
      exact gd_str (o.c z (by rw [e]; rfl)) (by decide)
  · obtain ⟨z, mz, rfl⟩ := List.mem_map.mp m; exact ⟨z, rfl, o.g z mz⟩
theorem srow.tg {d : D} (h : srow d) : tg 2 d := by
  obtain ⟨a, b, sp, s, us, rfl, oa, fob, o1, o2, l1, l2⟩ := h
  exact ⟨_, rfl, gd_five (n := 1) (gd_str oa (by decide)) (gd_str fob (by decide)) (gd_strs o1 (by omega)) gd_bl (gd_strs o2 (by omega))⟩
theorem prow.tg {d : D} (h : prow d) : tg 2 d := by
  obtain ⟨a, i, rfl, oa⟩ := h
  exact ⟨_, rfl, gd_two (n := 1) (gd_str oa (by decide)) gd_int⟩
section
variable {B : Int} {S : Store}
theorem build_ok {rows ps bl : List D} (F : Fd B S) (hB : B < 900000) (hr : ∀ r ∈ rows, srow r) (rn : rows ≠ []) (rz : rows.length ≤ 100) (hp : ∀ p ∈ ps, prow p) (pn : ps ≠ []) (pz : ps.length ≤ 100) (hb : ∀ b ∈ bl, isStr 40 b) (bn : bl ≠ []) (bz : bl.length ≤ 100) :
    ∃ (d : Bld) (S' : Store), f__law_build [.obj 0, .tup [.tup rows, .tup ps], .lst bl] S = some (d.d, S') ∧ d.ok ∧ d.inn bl ∧ Fd (B + 20) S' := by
  obtain ⟨r, S1, q1, mr, F1⟩ := pick_t F (by omega) rn (by omega)
  obtain ⟨p, S2, q2, mp, F2⟩ := pick_t F1 (by omega) pn (by omega)
  obtain ⟨a, b, sp, s, us, rfl, oa, fob, o1, o2, l1, l2⟩ := hr r mr
  obtain ⟨c, i, rfl, oc⟩ := hp p mp
  obtain ⟨v, S3, q3, v0, v1, F3⟩ := draw_ok F2 (by omega) (m := 4) (by decide) (by decide)
  have w0 : gIx (.tup [.tup rows, .tup ps]) (.int 0) = some (.tup rows) := rfl
  have w1 : gIx (.tup [.tup rows, .tup ps]) (.int 1) = some (.tup ps) := rfl
  have x0 : gIx (.tup [.str c, .int i]) (.int 0) = some (.str c) := rfl
  have y0 : gIx (.tup [.str a, .str b, .tup sp, .bl s, .tup us]) (.int 0) = some (.str a) := rfl
  have y4 : gIx (.tup [.str a, .str b, .tup sp, .bl s, .tup us]) (.int 4) = some (.tup us) := rfl
  let ρ : J.Env := [.d (.obj 0), .d (.tup [.tup rows, .tup ps]), .d (.lst bl), .d (.tup [.str a, .str b, .tup sp, .bl s, .tup us]), .d (.tup [.str c, .int i]), .un, .un]
  have T1 : (sPar [3, 4] (mD (eCall f__law_pick (aC (eV 0) (aC (e2 gIx (eP 1) (eC (.int 0))) aN))) (mD (eCall f__law_pick (aC (eV 0) (aC (e2 gIx (eP 1) (eC (.int 1))) aN))) mN))) [.d (.obj 0), .d (.tup [.tup rows, .tup ps]), .d (.lst bl), .un, .un, .un, .un] S = some (.nx ρ, S2) := by
    simp only [runDef, sSeq, sNil, sRet, sIf, sSet, sSetL, sExt, sApp, sPar, sFreeze, sDrop, eC, eV, eP, e1, e2, l2, eL, aN, aC, aG, aGL, tOf, tAndJ, tOrJ, tNotJ, eAnd, eOr, eNot, eIf, eCh, tTru, gTru, eTup, lDisp, iOf, J.items?, iRg1, iRg2, cYes, bName, bTup, bCons, bNil, mN, mD, mO, setsS, eCall, gIsi, gIsi2, isT_tt, gLen, gI0, gLe_i, gGe_i, gGt_i, gLt_i, gAdd_i,  gListL, gTuple, eSl, oN, oS, List.map_cons, List.map_nil, List.map, List.replicate, List.length_cons, List.length_nil, List.nil_append, List.cons_append, List.append_nil, List.set_cons_zero, List.set_cons_succ, List.set, List.length, List.getElem?_cons_zero, List.getElem?_cons_succ, Nat.sub, Nat.reduceSub, Nat.reduceAdd, Nat.reduceLT, Nat.reduceLeDiff, List.getElem?_nil, Bool.false_eq_true, if_true, if_false, Bool.true_and, Bool.false_and, Bool.and_true, Bool.and_false, Bool.not_true, Bool.not_false, Bool.true_or, Bool.or_true, Bool.or_false, Bool.false_or, wipeE, sPar, w0, w1, q1, q2]
    rfl
  by_cases h : v = 0
  · obtain ⟨x, S4, q4, mx, F4⟩ := pick_l F3 (by omega) bn (by omega)
    obtain ⟨z, rfl, oz⟩ := hb x mx
    refine ⟨⟨c, none, a, [], z⟩, S4, ?_, ⟨oc, (fun _ h => by cases h), oa, (fun z m => by simp at m), (by simp), oz, fun _ => rfl⟩, (fun q m => by simp [Bld.ls] at m; rw [m]; exact mx), F4.mono (by omega)⟩
    refine run_at ((seq_at T1).trans (seq_rt ?_))
    unfold Bld.d Bld.c
    simp only [ρ, runDef, sSeq, sNil, sRet, sIf, sSet, sSetL, sExt, sApp, sPar, sFreeze, sDrop, eC, eV, eP, e1, e2, l2, eL, aN, aC, aG, aGL, tOf, tAndJ, tOrJ, tNotJ, eAnd, eOr, eNot, eIf, eCh, tTru, gTru, eTup, lDisp, iOf, J.items?, iRg1, iRg2, cYes, bName, bTup, bCons, bNil, mN, mD, mO, setsS, eCall, gIsi, gIsi2, isT_tt, gLen, gI0, gLe_i, gGe_i, gGt_i, gLt_i, gAdd_i,  gListL, gTuple, eSl, oN, oS, List.map_cons, List.map_nil, List.map, List.replicate, List.length_cons, List.length_nil, List.nil_append, List.cons_append, List.append_nil, List.set_cons_zero, List.set_cons_succ, List.set, List.length, List.getElem?_cons_zero, List.getElem?_cons_succ, Nat.sub, Nat.reduceSub, Nat.reduceAdd, Nat.reduceLT, Nat.reduceLeDiff, List.getElem?_nil, Bool.false_eq_true, if_true, if_false, Bool.true_and, Bool.false_and, Bool.and_true, Bool.and_false, Bool.not_true, Bool.not_false, Bool.true_or, Bool.or_true, Bool.or_false, Bool.false_or, wipeE, q3, gEq_i, h, show ((0 : Int) == 0) = true from rfl, q4, x0, y0, if_pos (sz (k := 5)), if_pos (sz (k := 0))]
  · obtain ⟨g, S4, C, og, lg, F4⟩ := picks_l (j := 6) (i := 2) (n := 40) (l := iOf (e2 gIx (eP 3) (eC (.int 4)))) (ρ := ρ) (S0 := S3) (S := S3) (xs := us) rfl rfl (by decide) (by decide) (by simp only [ρ, runDef, sSeq, sNil, sRet, sIf, sSet, sSetL, sExt, sApp, sPar, sFreeze, sDrop, eC, eV, eP, e1, e2, l2, eL, aN, aC, aG, aGL, tOf, tAndJ, tOrJ, tNotJ, eAnd, eOr, eNot, eIf, eCh, tTru, gTru, eTup, lDisp, iOf, J.items?, iRg1, iRg2, cYes, bName, bTup, bCons, bNil, mN, mD, mO, setsS, eCall, gIsi, gIsi2, isT_tt, gLen, gI0, gLe_i, gGe_i, gGt_i, gLt_i, gAdd_i,  gListL, gTuple, eSl, oN, oS, List.map_cons, List.map_nil, List.map, List.replicate, List.length_cons, List.length_nil, List.nil_append, List.cons_append, List.append_nil, List.set_cons_zero, List.set_cons_succ, List.set, List.length, List.getElem?_cons_zero, List.getElem?_cons_succ, Nat.sub, Nat.reduceSub, Nat.reduceAdd, Nat.reduceLT, Nat.reduceLeDiff, List.getElem?_nil, Bool.false_eq_true, if_true, if_false, Bool.true_and, Bool.false_and, Bool.and_true, Bool.and_false, Bool.not_true, Bool.not_false, Bool.true_or, Bool.or_true, Bool.or_false, Bool.false_or, wipeE, y4]) (by omega) F3 (by omega) hb (fun _ => bn) (by omega)
    obtain ⟨x, S5, q5, mx, F5⟩ := pick_l F4 (by omega) bn (by omega)
    obtain ⟨z, rfl, oz⟩ := hb x mx
    obtain ⟨x2, S6, q6, mx2, F6⟩ := pick_l F5 (by omega) bn (by omega)
    obtain ⟨z2, rfl, oz2⟩ := hb x2 mx2
    obtain ⟨gs, _, eg, lgs, ogs⟩ := strs_all (n := 40) g fun d m => hb d (og d m)
    subst eg
    refine ⟨⟨c, some z, a, gs, z2⟩, S6, ?_, ⟨oc, (fun _ h => by cases h; exact oz), oa, ogs, (by rw [List.length_map] at lg; dsimp only; omega), oz2, fun h => by cases h⟩, (fun q m => by
      simp [Bld.ls] at m
      rcases m with m | m | m
      · exact og _ (List.mem_map.mpr ⟨q, m, rfl⟩)
      · rw [m]; exact mx2
      · rw [m]; exact mx), F6.mono (by omega)⟩
    have T2 : ∀ g0, sIf (tOf (e2 (gEq false) (eCall f__law_draw (aC (eV 0) (aC (eC (.int 4)) aN))) (eC (.int 0)))) g0 sNil ρ S2 = some (.nx ρ, S3) := fun g0 => by
      simp only [ρ, runDef, sSeq, sNil, sRet, sIf, sSet, sSetL, sExt, sApp, sPar, sFreeze, sDrop, eC, eV, eP, e1, e2, l2, eL, aN, aC, aG, aGL, tOf, tAndJ, tOrJ, tNotJ, eAnd, eOr, eNot, eIf, eCh, tTru, gTru, eTup, lDisp, iOf, J.items?, iRg1, iRg2, cYes, bName, bTup, bCons, bNil, mN, mD, mO, setsS, eCall, gIsi, gIsi2, isT_tt, gLen, gI0, gLe_i, gGe_i, gGt_i, gLt_i, gAdd_i,  gListL, gTuple, eSl, oN, oS, List.map_cons, List.map_nil, List.map, List.replicate, List.length_cons, List.length_nil, List.nil_append, List.cons_append, List.append_nil, List.set_cons_zero, List.set_cons_succ, List.set, List.length, List.getElem?_cons_zero, List.getElem?_cons_succ, Nat.sub, Nat.reduceSub, Nat.reduceAdd, Nat.reduceLT, Nat.reduceLeDiff, List.getElem?_nil, Bool.false_eq_true, if_true, if_false, Bool.true_and, Bool.false_and, Bool.and_true, Bool.and_false, Bool.not_true, Bool.not_false, Bool.true_or, Bool.or_true, Bool.or_false, Bool.false_or, wipeE, q3, gEq_i, beq_eq_false_iff_ne.mpr h]
    have T3 := set_at (i := 5) (tup_at (eL_at C))
    refine run_at ((seq_at T1).trans ((seq_at (T2 _)).trans ((seq_at T3).trans (ret_at ?_))))
    unfold Bld.d Bld.c
    simp only [ρ, runDef, sSeq, sNil, sRet, sIf, sSet, sSetL, sExt, sApp, sPar, sFreeze, sDrop, eC, eV, eP, e1, e2, l2, eL, aN, aC, aG, aGL, tOf, tAndJ, tOrJ, tNotJ, eAnd, eOr, eNot, eIf, eCh, tTru, gTru, eTup, lDisp, iOf, J.items?, iRg1, iRg2, cYes, bName, bTup, bCons, bNil, mN, mD, mO, setsS, eCall, gIsi, gIsi2, isT_tt, gLen, gI0, gLe_i, gGe_i, gGt_i, gLt_i, gAdd_i,  gListL, gTuple, eSl, oN, oS, List.map_cons, List.map_nil, List.map, List.replicate, List.length_cons, List.length_nil, List.nil_append, List.cons_append, List.append_nil, List.set_cons_zero, List.set_cons_succ, List.set, List.length, List.getElem?_cons_zero, List.getElem?_cons_succ, Nat.sub, Nat.reduceSub, Nat.reduceAdd, Nat.reduceLT, Nat.reduceLeDiff, List.getElem?_nil, Bool.false_eq_true, if_true, if_false, Bool.true_and, Bool.false_and, Bool.and_true, Bool.and_false, Bool.not_true, Bool.not_false, Bool.true_or, Bool.or_true, Bool.or_false, Bool.false_or, wipeE, q5, q6, x0, y0, if_pos (sz (k := 5))]
end
end K04

set_option maxHeartbeats 4000000
namespace K04
open PySem PySem.Spec PyProof.Rows L2 J
theorem strs_map : ∀ fs : List Str, J.strs? (fs.map D.str) = some fs
  | [] => rfl
  | x :: r => by rw [List.map_cons, J.strs?, strs_map r]; rfl
theorem sort_s {fs : List Str} (h : fs.length < 64) : gSortedS [.lst (fs.map D.str)] = some ((srt fs).map D.str) := by
  show (match J.strs? (fs.map D.str) with | some ys => if ys.length < 64 then some ((srt ys).map D.str) else none | none => none) = _
  rw [strs_map]
  exact if_pos h
theorem nums8 {ns : List Int} {v : Int} (h : ∀ n ∈ ns, 0 ≤ n ∧ n ≤ 16) (v0 : 0 ≤ v) (v1 : v < ns.length) : ∃ m : Nat, gIx (.lst (ns.map D.int)) (.int v) = some (.int (m : Int)) ∧ (m : Int) ∈ ns := by
  obtain ⟨k, rfl⟩ : ∃ k : Nat, v = (k : Int) := ⟨_, (Int.toNat_of_nonneg v0).symm⟩
  have hk : k < ns.length := by omega
  have a := h ns[k] (List.getElem_mem hk)
  refine ⟨ns[k].toNat, ?_, ?_⟩
  · rw [Int.toNat_of_nonneg a.1, gIx_lk (xs := ns.map D.int) (k := k) (by rw [List.length_map]; exact hk), List.getElem_map]
  · rw [Int.toNat_of_nonneg a.1]; exact List.getElem_mem hk
def bE (a b c d e : Slot) (prs fnd : Slot) (i m l u n : Slot) : J.Env := [.d (.obj 0), a, b, c, d, e, prs, fnd, i, m, l, u, n]
section
variable {B : Int} {S : Store} {a b c d e p f i m l u n : Slot}
/-- names whose number is drawn -/
theorem nn_ok {ns : List Int} (F : Fd B S) (hB : B < 700000) (hn : ∀ n ∈ ns, 0 ≤ n ∧ n ≤ 7) (hl : 0 < ns.length) (hl8 : ns.length ≤ 8) (lst : EL) (hlst : ∀ (ρ : J.Env) (S : Store), lst ρ S = some (ns.map D.int, S)) (dr : Int) (hdr : dr = (ns.length : Int)) :
    ∃ (ys : List Str) (S' : Store), eCall f__law_names (aC (eV 0) (aC (e2 gIx (eL lst) (eCall f__law_draw (aC (eV 0) (aC (eC (.int dr)) aN)))) aN)) (bE a b c d e p f i m l u n) S = some (.lst (ys.map D.str), S') ∧ (∀ y ∈ ys, okS 40 y) ∧ (ys.length : Int) ∈ ns ∧ ys.length ≤ 7 ∧ ys.Nodup ∧ Fd (B + 201) S' := by
  subst hdr
  obtain ⟨v, S1, q1, v0, v1, F1⟩ := draw_ok F (by omega) (m := (ns.length : Int)) (by omega) (log_small (by omega) (by omega))
  obtain ⟨k, I, mk⟩ := nums8 (fun n mn => ⟨(hn n mn).1, by have := (hn n mn).2; omega⟩) v0 v1
  have k7 := (hn _ mk).2
  obtain ⟨ys, S2, q2, oy, ly, ndy, F2⟩ := names_ok (many := k) F1 (by omega) (by omega)
  refine ⟨ys, S2, ?_, oy, by rw [ly]; exact mk, by omega, ndy, F2.mono (by omega)⟩
  unfold bE
  simp only [runDef, sSeq, sNil, sRet, sIf, sSet, sSetL, sExt, sApp, sPar, sFreeze, sDrop, eC, eV, eP, e1, e2, l2, eL, aN, aC, aG, aGL, tOf, tAndJ, tOrJ, tNotJ, eAnd, eOr, eNot, eIf, eCh, tTru, gTru, eTup, lDisp, iOf, J.items?, iRg1, iRg2, cYes, bName, bTup, bCons, bNil, mN, mD, mO, setsS, eCall, gIsi, gIsi2, isT_tt, gLen, gI0, gLe_i, gGe_i, gGt_i, gLt_i, gAdd_i,  gListL, gTuple, eSl, oN, oS, List.map_cons, List.map_nil, List.map, List.replicate, List.length_cons, List.length_nil, List.nil_append, List.cons_append, List.append_nil, List.set_cons_zero, List.set_cons_succ, List.set, List.length, List.getElem?_cons_zero, List.getElem?_cons_succ, Nat.sub, Nat.reduceSub, Nat.reduceAdd, Nat.reduceLT, Nat.reduceLeDiff, List.getElem?_nil, Bool.false_eq_true, if_true, if_false, Bool.true_and, Bool.false_and, Bool.and_true, Bool.and_false, Bool.not_true, Bool.not_false, Bool.true_or, Bool.or_true, Bool.or_false, Bool.false_or, wipeE, hlst, q1, I, q2]
theorem nn_sort {ys : List Str} {f : EX} {ρ : J.Env} {S0 S' : Store} (h : f ρ S0 = some (.lst (ys.map D.str), S')) (hz : ys.length < 64) : eL (aGL gSortedS (aC f aN)) ρ S0 = some (.lst ((srt ys).map D.str), S') := by
  simp only [eL, aGL, aC, aN, h, sort_s hz]
theorem srt_all {k : Nat} {ys : List Str} (h : ∀ y ∈ ys, okS k y) : ∀ y ∈ (srt ys).map D.str, isStr k y := fun d m => by
  obtain ⟨z, mz, rfl⟩ := List.mem_map.mp m
  exact ⟨z, rfl, h z ((srt_perm _).mem_iff.mp mz)⟩
theorem srt_len (ys : List Str) : ((srt ys).map D.str).length = ys.length := by rw [List.length_map, (srt_perm _).length_eq]
theorem lD {xs : List D} (h : xs.length ≤ 100) (r : EL) (hr : ∀ (ρ : J.Env) (S : Store), r ρ S = some (xs, S)) : ∀ (ρ : J.Env) (S : Store), lDisp r ρ S = some (xs, S) := fun ρ S => by
  unfold lDisp; rw [hr]; exact if_pos (by rw [sizeLine_eq]; omega)
theorem blobs_ok {xs ys zs : List D} (F : Fd B S) (hB : B < 900000) (lx : xs.length ≤ 10) (ly : ys.length ≤ 10) (lz : zs.length ≤ 10) (hx : ∀ d ∈ xs, isStr 40 d) (hy : ∀ d ∈ ys, isStr 40 d) (hz : ∀ d ∈ zs, isStr 40 d) (ne : zs ≠ []) :
    ∃ bl S', sIf (tOf (e2 (gEq false) (eCall f__law_draw (aC (eV 0) (aC (eC (.int 4)) aN))) (eC (.int 0)))) (sSet (e2 gAdd (e2 gAdd (eP 3) (eP 1)) (eP 2)) (bName 3)) sNil (bE (.d (.lst xs)) (.d (.lst ys)) (.d (.lst zs)) d e p f i m l u n) S = some (.nx (bE (.d (.lst xs)) (.d (.lst ys)) (.d (.lst bl)) d e p f i m l u n), S') ∧ (∀ d ∈ bl, isStr 40 d) ∧ bl ≠ [] ∧ bl.length ≤ 30 ∧ Fd (B + 1) S' := by
  obtain ⟨v, S1, q1, v0, v1, F1⟩ := draw_ok F (by omega) (m := 4) (by decide) (by decide)
  by_cases h : v = 0
  · have g1 : gAdd (.lst zs) (.lst xs) = some (.lst (zs ++ xs)) := if_pos (by rw [sizeLine_eq]; omega)
    have g2 : gAdd (.lst (zs ++ xs)) (.lst ys) = some (.lst (zs ++ xs ++ ys)) := if_pos (by rw [sizeLine_eq, List.length_append]; omega)
    refine ⟨zs ++ xs ++ ys, S1, ?_, fun d m => ?_, fun z => ?_, by rw [List.length_append, List.length_append]; omega, F1⟩
    · unfold bE
      simp only [runDef, sSeq, sNil, sRet, sIf, sSet, sSetL, sExt, sApp, sPar, sFreeze, sDrop, eC, eV, eP, e1, e2, l2, eL, aN, aC, aG, aGL, tOf, tAndJ, tOrJ, tNotJ, eAnd, eOr, eNot, eIf, eCh, tTru, gTru, eTup, lDisp, iOf, J.items?, iRg1, iRg2, cYes, bName, bTup, bCons, bNil, mN, mD, mO, setsS, eCall, gIsi, gIsi2, isT_tt, gLen, gI0, gLe_i, gGe_i, gGt_i, gLt_i, gAdd_i,  gListL, gTuple, eSl, oN, oS, List.map_cons, List.map_nil, List.map, List.replicate, List.length_cons, List.length_nil, List.nil_append, List.cons_append, List.append_nil, List.set_cons_zero, List.set_cons_succ, List.set, List.length, List.getElem?_cons_zero, List.getElem?_cons_succ, Nat.sub, Nat.reduceSub, Nat.reduceAdd, Nat.reduceLT, Nat.reduceLeDiff, List.getElem?_nil, Bool.false_eq_true, if_true, if_false, Bool.true_and, Bool.false_and, Bool.and_true, Bool.and_false, Bool.not_true, Bool.not_false, Bool.true_or, Bool.or_true, Bool.or_false, Bool.false_or, wipeE, q1, gEq_i, h, show ((0 : Int) == 0) = true from rfl, g1, g2]
    · rcases List.mem_append.mp m with m | m
      · rcases List.mem_append.mp m with m | m
        · exact hz d m
        · exact hx d m
      · exact hy d m
    · have := congrArg List.length z
      rw [List.length_append, List.length_append, List.length_nil] at this
      have p := List.length_pos_iff.mpr ne
      omega
  · refine ⟨zs, S1, ?_, hz, ne, by omega, F1⟩
    unfold bE
    simp only [runDef, sSeq, sNil, sRet, sIf, sSet, sSetL, sExt, sApp, sPar, sFreeze, sDrop, eC, eV, eP, e1, e2, l2, eL, aN, aC, aG, aGL, tOf, tAndJ, tOrJ, tNotJ, eAnd, eOr, eNot, eIf, eCh, tTru, gTru, eTup, lDisp, iOf, J.items?, iRg1, iRg2, cYes, bName, bTup, bCons, bNil, mN, mD, mO, setsS, eCall, gIsi, gIsi2, isT_tt, gLen, gI0, gLe_i, gGe_i, gGt_i, gLt_i, gAdd_i,  gListL, gTuple, eSl, oN, oS, List.map_cons, List.map_nil, List.map, List.replicate, List.length_cons, List.length_nil, List.nil_append, List.cons_append, List.append_nil, List.set_cons_zero, List.set_cons_succ, List.set, List.length, List.getElem?_cons_zero, List.getElem?_cons_succ, Nat.sub, Nat.reduceSub, Nat.reduceAdd, Nat.reduceLT, Nat.reduceLeDiff, List.getElem?_nil, Bool.false_eq_true, if_true, if_false, Bool.true_and, Bool.false_and, Bool.and_true, Bool.and_false, Bool.not_true, Bool.not_false, Bool.true_or, Bool.or_true, Bool.or_false, Bool.false_or, wipeE, q1, gEq_i, beq_eq_false_iff_ne.mpr h]
/-- the parties -/
theorem folk_ok {ys : List D} (F : Fd B S) (hB : B < 800000) (ly : ys.length ≤ 10) (hy : ∀ d ∈ ys, isStr 40 d) :
    ∃ ps S', lComp [12] (iOf (eP 2)) (bName 12) cYes (eTup (aC (eV 12) (aC (eCall f__law_weight (aC (eV 0) aN)) aN))) (bE a (.d (.lst ys)) c d e p f i m l u n) S = some (ps, S') ∧ (∀ d ∈ ps, prow d) ∧ ps.length = ys.length ∧ Fd (B + 3 * ys.length) S' := by
  refine lComp_each (P := prow) (k := 3) (N := B + 3 * ys.length) (by decide) (by unfold bE; simp only [runDef, sSeq, sNil, sRet, sIf, sSet, sSetL, sExt, sApp, sPar, sFreeze, sDrop, eC, eV, eP, e1, e2, l2, eL, aN, aC, aG, aGL, tOf, tAndJ, tOrJ, tNotJ, eAnd, eOr, eNot, eIf, eCh, tTru, gTru, eTup, lDisp, iOf, J.items?, iRg1, iRg2, cYes, bName, bTup, bCons, bNil, mN, mD, mO, setsS, eCall, gIsi, gIsi2, isT_tt, gLen, gI0, gLe_i, gGe_i, gGt_i, gLt_i, gAdd_i,  gListL, gTuple, eSl, oN, oS, List.map_cons, List.map_nil, List.map, List.replicate, List.length_cons, List.length_nil, List.nil_append, List.cons_append, List.append_nil, List.set_cons_zero, List.set_cons_succ, List.set, List.length, List.getElem?_cons_zero, List.getElem?_cons_succ, Nat.sub, Nat.reduceSub, Nat.reduceAdd, Nat.reduceLT, Nat.reduceLeDiff, List.getElem?_nil, Bool.false_eq_true, if_true, if_false, Bool.true_and, Bool.false_and, Bool.and_true, Bool.and_false, Bool.not_true, Bool.not_false, Bool.true_or, Bool.or_true, Bool.or_false, Bool.false_or, wipeE]) (by omega) F (Int.le_refl _) fun x mx B' S' F' hB' => ?_
  obtain ⟨z, rfl, oz⟩ := hy x mx
  obtain ⟨w, S1, q, F1⟩ := weight_ok F' (by omega)
  refine ⟨_, rfl, .tup [.str z, .int w], S1, ?_, ⟨z, w, rfl, oz⟩, F1⟩
  unfold bE
  simp only [runDef, sSeq, sNil, sRet, sIf, sSet, sSetL, sExt, sApp, sPar, sFreeze, sDrop, eC, eV, eP, e1, e2, l2, eL, aN, aC, aG, aGL, tOf, tAndJ, tOrJ, tNotJ, eAnd, eOr, eNot, eIf, eCh, tTru, gTru, eTup, lDisp, iOf, J.items?, iRg1, iRg2, cYes, bName, bTup, bCons, bNil, mN, mD, mO, setsS, eCall, gIsi, gIsi2, isT_tt, gLen, gI0, gLe_i, gGe_i, gGt_i, gLt_i, gAdd_i,  gListL, gTuple, eSl, oN, oS, List.map_cons, List.map_nil, List.map, List.replicate, List.length_cons, List.length_nil, List.nil_append, List.cons_append, List.append_nil, List.set_cons_zero, List.set_cons_succ, List.set, List.length, List.getElem?_cons_zero, List.getElem?_cons_succ, Nat.sub, Nat.reduceSub, Nat.reduceAdd, Nat.reduceLT, Nat.reduceLeDiff, List.getElem?_nil, Bool.false_eq_true, if_true, if_false, Bool.true_and, Bool.false_and, Bool.and_true, Bool.and_false, Bool.not_true, Bool.not_false, Bool.true_or, Bool.or_true, Bool.or_false, Bool.false_or, wipeE, q, if_pos (sz (k := 2))]
end
def P8b : GS := (sExt 6 (eL (lComp [12] (iOf (eSl (eP 1) (oS (e2 gAdd (eP 8) (eC (.int 1)))) oN)) (bName 12) (tOf (e2 (gEq false) (eCall f__law_draw (aC (eV 0) (aC (eC (.int 3)) aN))) (eC (.int 0)))) (eTup (aC (e2 gIx (eP 1) (eP 8)) (aC (eV 12) aN))))))
def pI (xs : List D) (b c d e f m l u : Slot) (k : Nat) (ρ : J.Env) : Prop := ∃ (prs : List D) (i n : Slot), ρ = bE (.d (.lst xs)) b c d e (.own prs) f i m l u n ∧ (∀ x ∈ prs, tg 2 x) ∧ prs.length ≤ 10 * k
theorem cutD_mem {xs : List D} {lo hi : Option Int} {x : D} (h : x ∈ J.cutD xs lo hi) : x ∈ xs := List.mem_of_mem_drop (List.mem_of_mem_take h)
theorem cutD_len {xs : List D} {lo hi : Option Int} : (J.cutD xs lo hi).length ≤ xs.length := by unfold J.cutD; rw [List.length_take, List.length_drop]; omega
section
variable {B : Int} {S : Store} {b c d e f m l u : Slot}
theorem p_step {xs : List D} {k j : Nat} {ρ : J.Env} (F : Fd B S) (hB : B < 900000) (lx : xs.length ≤ 10) (hx : ∀ d ∈ xs, isStr 40 d) (hj : j < xs.length) (hk : k < 10) (i : pI xs b c d e f m l u k ρ) :
    ∃ ρ1, bName 8 (.int (j : Int)) ρ = some ρ1 ∧ ∃ ρ2 S2, P8b ρ1 S = some (.nx ρ2, S2) ∧ pI xs b c d e f m l u (k + 1) ρ2 ∧ Fd (B + 10) S2 := by
  obtain ⟨prs, i, n, rfl, hp, lp⟩ := i
  obtain ⟨nm, en, on⟩ := hx xs[j] (List.getElem_mem hj)
  have I : gIx (.lst xs) (.int (j : Int)) = some (.str nm) := by rw [gIx_lk hj, en]
  have L : iOf (eSl (eP 1) (oS (e2 gAdd (eP 8) (eC (.int 1)))) oN) (bE (.d (.lst xs)) b c d e (.own prs) f (.d (.int (j : Int))) m l u n) S = some (J.cutD xs (some ((j : Int) + 1)) none, S) := by
    unfold bE; simp only [runDef, sSeq, sNil, sRet, sIf, sSet, sSetL, sExt, sApp, sPar, sFreeze, sDrop, eC, eV, eP, e1, e2, l2, eL, aN, aC, aG, aGL, tOf, tAndJ, tOrJ, tNotJ, eAnd, eOr, eNot, eIf, eCh, tTru, gTru, eTup, lDisp, iOf, J.items?, iRg1, iRg2, cYes, bName, bTup, bCons, bNil, mN, mD, mO, setsS, eCall, gIsi, gIsi2, isT_tt, gLen, gI0, gLe_i, gGe_i, gGt_i, gLt_i, gAdd_i,  gListL, gTuple, eSl, oN, oS, List.map_cons, List.map_nil, List.map, List.replicate, List.length_cons, List.length_nil, List.nil_append, List.cons_append, List.append_nil, List.set_cons_zero, List.set_cons_succ, List.set, List.length, List.getElem?_cons_zero, List.getElem?_cons_succ, Nat.sub, Nat.reduceSub, Nat.reduceAdd, Nat.reduceLT, Nat.reduceLeDiff, List.getElem?_nil, Bool.false_eq_true, if_true, if_false, Bool.true_and, Bool.false_and, Bool.and_true, Bool.and_false, Bool.not_true, Bool.not_false, Bool.true_or, Bool.or_true, Bool.or_false, Bool.false_or, wipeE, gSl]
  have lc := cutD_len (xs := xs) (lo := some ((j : Int) + 1)) (hi := none)
  obtain ⟨ys, S', C, o, ly, F'⟩ := lComp_inv (P := tg 2) (k := 1) (N := B + 1 * (J.cutD xs (some ((j : Int) + 1)) none).length) (vs := [12]) (bd := bName 12) (cond := tOf (e2 (gEq false) (eCall f__law_draw (aC (eV 0) (aC (eC (.int 3)) aN))) (eC (.int 0)))) (elt := eTup (aC (e2 gIx (eP 1) (eP 8)) (aC (eV 12) aN))) (by decide) L (by omega) F (Int.le_refl _) fun x mx B' S' F' hB' => by
    obtain ⟨z, rfl, oz⟩ := hx x (cutD_mem mx)
    obtain ⟨v, S1, q1, v0, v1, F1⟩ := draw_ok F' (show B' < 1000000000 by omega) (m := 3) (by decide) (by decide)
    refine ⟨_, rfl, v == 0, S1, ?_, F1, fun _ => ⟨.tup [.str nm, .str z], S1, ?_, ⟨_, rfl, gd_two (n := 1) (gd_str on (by decide)) (gd_str oz (by decide))⟩, F1⟩⟩
    · unfold bE
      simp only [runDef, sSeq, sNil, sRet, sIf, sSet, sSetL, sExt, sApp, sPar, sFreeze, sDrop, eC, eV, eP, e1, e2, l2, eL, aN, aC, aG, aGL, tOf, tAndJ, tOrJ, tNotJ, eAnd, eOr, eNot, eIf, eCh, tTru, gTru, eTup, lDisp, iOf, J.items?, iRg1, iRg2, cYes, bName, bTup, bCons, bNil, mN, mD, mO, setsS, eCall, gIsi, gIsi2, isT_tt, gLen, gI0, gLe_i, gGe_i, gGt_i, gLt_i, gAdd_i,  gListL, gTuple, eSl, oN, oS, List.map_cons, List.map_nil, List.map, List.replicate, List.length_cons, List.length_nil, List.nil_append, List.cons_append, List.append_nil, List.set_cons_zero, List.set_cons_succ, List.set, List.length, List.getElem?_cons_zero, List.getElem?_cons_succ, Nat.sub, Nat.reduceSub, Nat.reduceAdd, Nat.reduceLT, Nat.reduceLeDiff, List.getElem?_nil, Bool.false_eq_true, if_true, if_false, Bool.true_and, Bool.false_and, Bool.and_true, Bool.and_false, Bool.not_true, Bool.not_false, Bool.true_or, Bool.or_true, Bool.or_false, Bool.false_or, wipeE, q1, gEq_i]
    · unfold bE
      simp only [runDef, sSeq, sNil, sRet, sIf, sSet, sSetL, sExt, sApp, sPar, sFreeze, sDrop, eC, eV, eP, e1, e2, l2, eL, aN, aC, aG, aGL, tOf, tAndJ, tOrJ, tNotJ, eAnd, eOr, eNot, eIf, eCh, tTru, gTru, eTup, lDisp, iOf, J.items?, iRg1, iRg2, cYes, bName, bTup, bCons, bNil, mN, mD, mO, setsS, eCall, gIsi, gIsi2, isT_tt, gLen, gI0, gLe_i, gGe_i, gGt_i, gLt_i, gAdd_i,  gListL, gTuple, eSl, oN, oS, List.map_cons, List.map_nil, List.map, List.replicate, List.length_cons, List.length_nil, List.nil_append, List.cons_append, List.append_nil, List.set_cons_zero, List.set_cons_succ, List.set, List.length, List.getElem?_cons_zero, List.getElem?_cons_succ, Nat.sub, Nat.reduceSub, Nat.reduceAdd, Nat.reduceLT, Nat.reduceLeDiff, List.getElem?_nil, Bool.false_eq_true, if_true, if_false, Bool.true_and, Bool.false_and, Bool.and_true, Bool.and_false, Bool.not_true, Bool.not_false, Bool.true_or, Bool.or_true, Bool.or_false, Bool.false_or, wipeE, I, if_pos (sz (k := 2))]
  refine ⟨_, rfl, bE (.d (.lst xs)) b c d e (.own (prs ++ ys)) f (.d (.int (j : Int))) m l u n, S', ?_, ⟨prs ++ ys, _, _, rfl, fun x m => (List.mem_append.mp m).elim (hp x) (o x), by rw [List.length_append]; omega⟩, F'.mono (by omega)⟩
  have h6 : sExt 6 (eL (lComp [12] (iOf (eSl (eP 1) (oS (e2 gAdd (eP 8) (eC (.int 1)))) oN)) (bName 12) (tOf (e2 (gEq false) (eCall f__law_draw (aC (eV 0) (aC (eC (.int 3)) aN))) (eC (.int 0)))) (eTup (aC (e2 gIx (eP 1) (eP 8)) (aC (eV 12) aN))))) (bE (.d (.lst xs)) b c d e (.own prs) f (.d (.int (j : Int))) m l u n) S = some (.nx (bE (.d (.lst xs)) b c d e (.own (prs ++ ys)) f (.d (.int (j : Int))) m l u n), S') := by
    unfold sExt
    rw [show (bE (.d (.lst xs)) b c d e (.own prs) f (.d (.int (j : Int))) m l u n)[6]? = some (.own prs) from rfl]
    simp only
    rw [eL_at C]
    simp only
    rw [if_pos (by rw [sizeLine_eq]; omega)]
    rfl
  exact h6
end
end K04

set_option maxHeartbeats 4000000
namespace K04
open PySem PySem.Spec PyProof.Rows L2 J
section
variable {B : Int} {S : Store} {a b c d e f i m l u n p : Slot}
def B10 : GS := sSeq (sSet (eCall f__law_build (aC (eV 0) (aC (eV 5) (aC (eV 3) aN)))) (bName 11)) (sIf (tOf (e2 (gIn true) (eP 11) (eP 7))) (sApp 7 (eV 11)) sNil)
def bI (a b d p i m n : Slot) (bl rows ps : List D) (k : Nat) (ρ : J.Env) : Prop := ∃ (fnd : List Bld) (l u : Slot), ρ = bE a b (.d (.lst bl)) d (.d (.tup [.tup rows, .tup ps])) p (.own (fnd.map Bld.d)) i m l u n ∧ (∀ x ∈ fnd, x.ok ∧ x.inn bl) ∧ fnd.length ≤ k
theorem tgs_good {n : Nat} {xs : List D} (h : ∀ x ∈ xs, tg n x) : goods xs = true ∧ dpts xs ≤ n := ⟨(goods_all _).mpr fun x m => by obtain ⟨_, _, g, _⟩ := h x m; exact sm_good _ g, (dpts_le _).mpr fun x m => by obtain ⟨_, _, _, g⟩ := h x m; exact g⟩
theorem b_step {bl rows ps : List D} {k : Nat} {ρ : J.Env} {x : D} (F : Fd B S) (hB : B < 900000) (hr : ∀ r ∈ rows, srow r) (rn : rows ≠ []) (rz : rows.length ≤ 100) (hp : ∀ p ∈ ps, prow p) (pn : ps ≠ []) (pz : ps.length ≤ 100) (hb : ∀ b ∈ bl, isStr 40 b) (bn : bl ≠ []) (bz : bl.length ≤ 100) (hk : k < 100) (i0 : bI a b d p i m n bl rows ps k ρ) :
    ∃ ρ1, bName 10 x ρ = some ρ1 ∧ ∃ ρ2 S2, B10 ρ1 S = some (.nx ρ2, S2) ∧ bI a b d p i m n bl rows ps (k + 1) ρ2 ∧ Fd (B + 20) S2 := by
  obtain ⟨fnB, l, u, rfl, hfB, lf⟩ := i0
  obtain ⟨y, S1, q1, oy, iy, F1⟩ := build_ok F hB hr rn rz hp pn pz hb bn bz
  obtain ⟨zs, ez, gy, dy⟩ := Bld.tg oy
  have hf : ∀ x ∈ fnB.map Bld.d, tg 2 x := fun x m => by
    obtain ⟨b, mb, rfl⟩ := List.mem_map.mp m
    exact Bld.tg (hfB b mb).1
  have gf := tgs_good hf
  have ea : fnB.map Bld.d ++ [.tup zs] = (fnB ++ [y]).map Bld.d := by rw [List.map_append, ← ez]; rfl
  have lf' : (fnB.map Bld.d).length ≤ k := by rw [List.length_map]; exact lf
  rw [ez] at q1 gy dy
  generalize efn : fnB.map Bld.d = fnd at *
  obtain ⟨t, G⟩ := gIn_l (neg := true) (x := .tup zs) (sm_good _ gy) (by omega) gf.1 (by omega) fun _ _ => True.intro
  have T1 : sSet (eCall f__law_build (aC (eV 0) (aC (eV 5) (aC (eV 3) aN)))) (bName 11) (bE a b (.d (.lst bl)) d (.d (.tup [.tup rows, .tup ps])) p (.own fnd) i m (.d x) u n) S = some (.nx (bE a b (.d (.lst bl)) d (.d (.tup [.tup rows, .tup ps])) p (.own fnd) i m (.d x) (.d (.tup zs)) n), S1) := by
    unfold bE; simp only [runDef, sSeq, sNil, sRet, sIf, sSet, sSetL, sExt, sApp, sPar, sFreeze, sDrop, eC, eV, eP, e1, e2, l2, eL, aN, aC, aG, aGL, tOf, tAndJ, tOrJ, tNotJ, eAnd, eOr, eNot, eIf, eCh, tTru, gTru, eTup, lDisp, iOf, J.items?, iRg1, iRg2, cYes, bName, bTup, bCons, bNil, mN, mD, mO, setsS, eCall, gIsi, gIsi2, isT_tt, gLen, gI0, gLe_i, gGe_i, gGt_i, gLt_i, gAdd_i,  gListL, gTuple, eSl, oN, oS, List.map_cons, List.map_nil, List.map, List.replicate, List.length_cons, List.length_nil, List.nil_append, List.cons_append, List.append_nil, List.set_cons_zero, List.set_cons_succ, List.set, List.length, List.getElem?_cons_zero, List.getElem?_cons_succ, Nat.sub, Nat.reduceSub, Nat.reduceAdd, Nat.reduceLT, Nat.reduceLeDiff, List.getElem?_nil, Bool.false_eq_true, if_true, if_false, Bool.true_and, Bool.false_and, Bool.and_true, Bool.and_false, Bool.not_true, Bool.not_false, Bool.true_or, Bool.or_true, Bool.or_false, Bool.false_or, wipeE, q1]
  cases t with
  | true =>
    refine ⟨_, rfl, bE a b (.d (.lst bl)) d (.d (.tup [.tup rows, .tup ps])) p (.own (fnd ++ [.tup zs])) i m (.d x) (.d (.tup zs)) n, S1, (seq_at T1).trans ?_, ⟨fnB ++ [y], _, _, by rw [ea], fun w mw => (List.mem_append.mp mw).elim (hfB w) fun mw => by rw [List.mem_singleton.mp mw]; exact ⟨oy, iy⟩, by rw [List.length_append, List.length_singleton]; omega⟩, F1⟩
    unfold bE
    simp only [runDef, sSeq, sNil, sRet, sIf, sSet, sSetL, sExt, sApp, sPar, sFreeze, sDrop, eC, eV, eP, e1, e2, l2, eL, aN, aC, aG, aGL, tOf, tAndJ, tOrJ, tNotJ, eAnd, eOr, eNot, eIf, eCh, tTru, gTru, eTup, lDisp, iOf, J.items?, iRg1, iRg2, cYes, bName, bTup, bCons, bNil, mN, mD, mO, setsS, eCall, gIsi, gIsi2, isT_tt, gLen, gI0, gLe_i, gGe_i, gGt_i, gLt_i, gAdd_i,  gListL, gTuple, eSl, oN, oS, List.map_cons, List.map_nil, List.map, List.replicate, List.length_cons, List.length_nil, List.nil_append, List.cons_append, List.append_nil, List.set_cons_zero, List.set_cons_succ, List.set, List.length, List.getElem?_cons_zero, List.getElem?_cons_succ, Nat.sub, Nat.reduceSub, Nat.reduceAdd, Nat.reduceLT, Nat.reduceLeDiff, List.getElem?_nil, Bool.false_eq_true, if_true, if_false, Bool.true_and, Bool.false_and, Bool.and_true, Bool.and_false, Bool.not_true, Bool.not_false, Bool.true_or, Bool.or_true, Bool.or_false, Bool.false_or, wipeE, G, if_pos (show fnd.length < sizeLine by rw [sizeLine_eq]; omega)]
  | false =>
    refine ⟨_, rfl, bE a b (.d (.lst bl)) d (.d (.tup [.tup rows, .tup ps])) p (.own fnd) i m (.d x) (.d (.tup zs)) n, S1, (seq_at T1).trans ?_, ⟨fnB, _, _, by rw [efn], hfB, by omega⟩, F1⟩
    unfold bE
    simp only [runDef, sSeq, sNil, sRet, sIf, sSet, sSetL, sExt, sApp, sPar, sFreeze, sDrop, eC, eV, eP, e1, e2, l2, eL, aN, aC, aG, aGL, tOf, tAndJ, tOrJ, tNotJ, eAnd, eOr, eNot, eIf, eCh, tTru, gTru, eTup, lDisp, iOf, J.items?, iRg1, iRg2, cYes, bName, bTup, bCons, bNil, mN, mD, mO, setsS, eCall, gIsi, gIsi2, isT_tt, gLen, gI0, gLe_i, gGe_i, gGt_i, gLt_i, gAdd_i,  gListL, gTuple, eSl, oN, oS, List.map_cons, List.map_nil, List.map, List.replicate, List.length_cons, List.length_nil, List.nil_append, List.cons_append, List.append_nil, List.set_cons_zero, List.set_cons_succ, List.set, List.length, List.getElem?_cons_zero, List.getElem?_cons_succ, Nat.sub, Nat.reduceSub, Nat.reduceAdd, Nat.reduceLT, Nat.reduceLeDiff, List.getElem?_nil, Bool.false_eq_true, if_true, if_false, Bool.true_and, Bool.false_and, Bool.and_true, Bool.and_false, Bool.not_true, Bool.not_false, Bool.true_or, Bool.or_true, Bool.or_false, Bool.false_or, wipeE, G]
theorem emp {xs : List D} (h : xs ≠ []) : xs.isEmpty = false := by
  cases xs with
  | nil => exact absurd rfl h
  | cons x r => rfl
theorem tup2_at {f g : EX} {ρ : J.Env} {S S1 S2 : Store} {x y : D} (h1 : f ρ S = some (x, S1)) (h2 : g ρ S1 = some (y, S2)) : eTup (aC f (aC g aN)) ρ S = some (.tup [x, y], S2) := by
  simp only [eTup, aC, aN, h1, h2]
  exact if_pos (sz (k := 2))
theorem ne_flag {xs : List D} (h : ∀ d ∈ xs, isStr 40 d) : gEq true (.lst xs) (.lst []) = some (.bl (!xs.isEmpty)) := by
  have N := gEq_nil (neg := true) (str_goods h (by decide)) (str_dpts h)
  simpa using N
theorem book_ok (F : Fd B S) (hB : B < 100000) : ∃ (rows : List SRow) (ps prs : List D) (bs : List Bld) (bl : List D) (S' : Store), f__law_book [.obj 0] S = some (.tup [.tup (rows.map SRow.d), .tup ps, .tup prs, .tup (bs.map Bld.d)], S') ∧ (∀ r ∈ rows, r.ok (rows.map fun r => D.str r.nm)) ∧ (rows.map (·.nm)).Nodup ∧ (∀ x ∈ ps, prow x) ∧ (∀ x ∈ prs, tg 2 x) ∧ (∀ b ∈ bs, b.ok ∧ b.inn bl) ∧ bl.length ≤ 30 ∧ rows.length ≤ 10 ∧ ps.length ≤ 10 ∧ prs.length ≤ 100 ∧ bs.length ≤ 20 ∧ Fd (B + 5000) S' := by
  obtain ⟨y1, S1, q1, o1, m1, l1, nd1, F1⟩ := nn_ok (a := .un) (b := .un) (c := .un) (d := .un) (e := .un) (p := .un) (f := .un) (i := .un) (m := .un) (l := .un) (u := .un) (n := .un) (ns := [2, 3, 1, 4, 2, 6, 0, 3]) F (by omega) (by decide) (by decide) (by decide) (lDisp (aC (eC (.int 2)) (aC (eC (.int 3)) (aC (eC (.int 1)) (aC (eC (.int 4)) (aC (eC (.int 2)) (aC (eC (.int 6)) (aC (eC (.int 0)) (aC (eC (.int 3)) aN))))))))) (lD (by simp) _ fun _ _ => rfl) 8 rfl
  have T1 := set_at (i := 1) (nn_sort q1 (by omega))
  have w1 := srt_all o1
  have z1 := srt_len y1
  obtain ⟨y2, S2, q2, o2, m2, l2, nd2, F2⟩ := nn_ok (a := .d (.lst ((srt y1).map D.str))) (b := .un) (c := .un) (d := .un) (e := .un) (p := .un) (f := .un) (i := .un) (m := .un) (l := .un) (u := .un) (n := .un) (ns := [2, 3, 1, 5, 2, 0, 4, 3]) F1 (by omega) (by decide) (by decide) (by decide) (lDisp (aC (eC (.int 2)) (aC (eC (.int 3)) (aC (eC (.int 1)) (aC (eC (.int 5)) (aC (eC (.int 2)) (aC (eC (.int 0)) (aC (eC (.int 4)) (aC (eC (.int 3)) aN))))))))) (lD (by simp) _ fun _ _ => rfl) 8 rfl
  have T2 := set_at (i := 2) (nn_sort q2 (by omega))
  have w2 := srt_all o2
  have z2 := srt_len y2
  have nx : ((srt y1).map D.str).Nodup := ((srt_perm _).nodup_iff.mpr nd1).map D.str (fun _ _ h e => h (D.str.inj e))
  generalize (srt y1).map D.str = xs at *
  generalize (srt y2).map D.str = ys at *
  obtain ⟨y3, S3, q3, o3, m3, l3, nd3, F3⟩ := nn_ok (a := .d (.lst xs)) (b := .d (.lst ys)) (c := .un) (d := .un) (e := .un) (p := .un) (f := .un) (i := .un) (m := .un) (l := .un) (u := .un) (n := .un) (ns := [3, 5, 1, 7]) F2 (by omega) (by decide) (by decide) (by decide) (lDisp (aC (eC (.int 3)) (aC (eC (.int 5)) (aC (eC (.int 1)) (aC (eC (.int 7)) aN))))) (lD (by simp) _ fun _ _ => rfl) 4 rfl
  have T3 := set_at (i := 3) q3
  have n3 : y3.map D.str ≠ [] := fun z => by
    have : y3 = [] := List.map_eq_nil_iff.mp z
    rw [this] at m3
    simp at m3
  obtain ⟨bl, S4, T4, fob, nb, lb, F4⟩ := blobs_ok (d := .un) (e := .un) (p := .un) (f := .un) (i := .un) (m := .un) (l := .un) (u := .un) (n := .un) (xs := xs) (ys := ys) (zs := y3.map D.str) F3 (by omega) (by omega) (by omega) (by rw [List.length_map]; omega) w1 w2 (strs_is o3) n3
  -- the sources
  obtain ⟨v, S5, q5, v0, v1, F5⟩ := draw_ok F4 (by omega) (m := 3) (by decide) (by decide)
  obtain ⟨k, rfl⟩ : ∃ k : Nat, v = (k : Int) := ⟨_, (Int.toNat_of_nonneg v0).symm⟩
  obtain ⟨y6, S6, q6, o6, l6, nd6, F6⟩ := names_ok (many := 1 + k) F5 (by omega) (by omega)
  have n6 : y6.map D.str ≠ [] := fun z => by
    have : y6 = [] := List.map_eq_nil_iff.mp z
    rw [this] at l6
    simp at l6
    omega
  obtain ⟨rowsR, S7, q7, oR, nR, F7⟩ := sources_ok (ns := xs) (ts := y6.map D.str) F6 (by omega) w1 (by omega) (strs_is o6) (by rw [List.length_map]; omega) n6
  have or' : ∀ r ∈ rowsR.map SRow.d, srow r := fun r m => by
    obtain ⟨b, mb, rfl⟩ := List.mem_map.mp m
    exact srow_of (oR b mb)
  have lr : (rowsR.map SRow.d).length = xs.length := by rw [← nR, List.length_map, List.length_map]
  generalize er : rowsR.map SRow.d = rows at *
  have T5 : sSet (eCall f__law_sources (aC (eV 0) (aC (eV 1) (aC (eCall f__law_names (aC (eV 0) (aC (e2 gAdd (eC (.int 1)) (eCall f__law_draw (aC (eV 0) (aC (eC (.int 3)) aN)))) aN))) aN)))) (bName 4) (bE (.d (.lst xs)) (.d (.lst ys)) (.d (.lst bl)) .un .un .un .un .un .un .un .un .un) S4 = some (.nx (bE (.d (.lst xs)) (.d (.lst ys)) (.d (.lst bl)) (.d (.tup rows)) .un .un .un .un .un .un .un .un), S7) := by
    have e1 : ((1 + k : Nat) : Int) = 1 + (k : Int) := by omega
    rw [e1] at q6
    unfold bE
    simp only [runDef, sSeq, sNil, sRet, sIf, sSet, sSetL, sExt, sApp, sPar, sFreeze, sDrop, eC, eV, eP, e1, e2, l2, eL, aN, aC, aG, aGL, tOf, tAndJ, tOrJ, tNotJ, eAnd, eOr, eNot, eIf, eCh, tTru, gTru, eTup, lDisp, iOf, J.items?, iRg1, iRg2, cYes, bName, bTup, bCons, bNil, mN, mD, mO, setsS, eCall, gIsi, gIsi2, isT_tt, gLen, gI0, gLe_i, gGe_i, gGt_i, gLt_i, gAdd_i,  gListL, gTuple, eSl, oN, oS, List.map_cons, List.map_nil, List.map, List.replicate, List.length_cons, List.length_nil, List.nil_append, List.cons_append, List.append_nil, List.set_cons_zero, List.set_cons_succ, List.set, List.length, List.getElem?_cons_zero, List.getElem?_cons_succ, Nat.sub, Nat.reduceSub, Nat.reduceAdd, Nat.reduceLT, Nat.reduceLeDiff, List.getElem?_nil, Bool.false_eq_true, if_true, if_false, Bool.true_and, Bool.false_and, Bool.and_true, Bool.and_false, Bool.not_true, Bool.not_false, Bool.true_or, Bool.or_true, Bool.or_false, Bool.false_or, wipeE, q5, q6, q7]
  -- the parties
  obtain ⟨ps, S8, C8, op, lp, F8⟩ := folk_ok (a := .d (.lst xs)) (c := .d (.lst bl)) (d := .d (.tup rows)) (e := .un) (p := .un) (f := .un) (i := .un) (m := .un) (l := .un) (u := .un) (n := .un) (ys := ys) F7 (by omega) (by omega) w2
  have T6 : sSet (eTup (aC (eV 4) (aC (aG gTuple (aC (eL (lComp [12] (iOf (eP 2)) (bName 12) cYes (eTup (aC (eV 12) (aC (eCall f__law_weight (aC (eV 0) aN)) aN))))) aN)) aN))) (bName 5) (bE (.d (.lst xs)) (.d (.lst ys)) (.d (.lst bl)) (.d (.tup rows)) .un .un .un .un .un .un .un .un) S7 = some (.nx (bE (.d (.lst xs)) (.d (.lst ys)) (.d (.lst bl)) (.d (.tup rows)) (.d (.tup [.tup rows, .tup ps])) .un .un .un .un .un .un .un), S8) := by
    exact set_at (i := 5) (tup2_at (show eV 4 (bE (.d (.lst xs)) (.d (.lst ys)) (.d (.lst bl)) (.d (.tup rows)) .un .un .un .un .un .un .un .un) S7 = some (.tup rows, S7) from rfl) (tup_at (eL_at C8)))
  have T7 : sPar [6, 7] (mO (lDisp aN) (mO (lDisp aN) mN)) (bE (.d (.lst xs)) (.d (.lst ys)) (.d (.lst bl)) (.d (.tup rows)) (.d (.tup [.tup rows, .tup ps])) .un .un .un .un .un .un .un) S8 = some (.nx (bE (.d (.lst xs)) (.d (.lst ys)) (.d (.lst bl)) (.d (.tup rows)) (.d (.tup [.tup rows, .tup ps])) (.own []) (.own []) .un .un .un .un .un), S8) := by
    unfold bE
    simp only [runDef, sSeq, sNil, sRet, sIf, sSet, sSetL, sExt, sApp, sPar, sFreeze, sDrop, eC, eV, eP, e1, e2, l2, eL, aN, aC, aG, aGL, tOf, tAndJ, tOrJ, tNotJ, eAnd, eOr, eNot, eIf, eCh, tTru, gTru, eTup, lDisp, iOf, J.items?, iRg1, iRg2, cYes, bName, bTup, bCons, bNil, mN, mD, mO, setsS, eCall, gIsi, gIsi2, isT_tt, gLen, gI0, gLe_i, gGe_i, gGt_i, gLt_i, gAdd_i,  gListL, gTuple, eSl, oN, oS, List.map_cons, List.map_nil, List.map, List.replicate, List.length_cons, List.length_nil, List.nil_append, List.cons_append, List.append_nil, List.set_cons_zero, List.set_cons_succ, List.set, List.length, List.getElem?_cons_zero, List.getElem?_cons_succ, Nat.sub, Nat.reduceSub, Nat.reduceAdd, Nat.reduceLT, Nat.reduceLeDiff, List.getElem?_nil, Bool.false_eq_true, if_true, if_false, Bool.true_and, Bool.false_and, Bool.and_true, Bool.and_false, Bool.not_true, Bool.not_false, Bool.true_or, Bool.or_true, Bool.or_false, Bool.false_or, wipeE, sPar, if_pos (sz (k := 0))]
  -- the pairs
  obtain ⟨ρ9, S9, e9, i9, F9⟩ := forGo_inv (I := pI xs (.d (.lst ys)) (.d (.lst bl)) (.d (.tup rows)) (.d (.tup [.tup rows, .tup ps])) (.own []) .un .un .un) (bd := bName 8) (body := P8b) (k := 10) (N := 800000 - 1) (L := 10) (by decide) (ranged 0 xs.length) 0 _ _ S8 ⟨[], .un, .un, rfl, fun x m => by simp at m, by simp⟩ F8 (by rw [ranged_len]; omega) (by rw [ranged_len]; omega)
    fun x mx n' ρ' B' S' hn' i' F' hB' => by
      unfold ranged at mx
      obtain ⟨j, mj, rfl⟩ := List.mem_map.mp mx
      have mj := List.mem_range.mp mj
      rw [show (0 : Int) + (j : Int) = (j : Int) by omega]
      exact p_step F' (by omega) (by omega) w1 mj hn' i'
  rw [ranged_len] at i9 F9
  obtain ⟨prs, i9', n9', rfl, hprs, lprs⟩ := i9
  have T8 := for_at (rg1_at (r := aC (aG gLen (aC (eP 1) aN)) aN) (ρ := bE (.d (.lst xs)) (.d (.lst ys)) (.d (.lst bl)) (.d (.tup rows)) (.d (.tup [.tup rows, .tup ps])) (.own []) (.own []) .un .un .un .un .un) (S := S8) (S1 := S8) (n := xs.length) rfl (by omega)) e9
  -- how many builds
  obtain ⟨w, S10, q10, w0', w1', F10⟩ := draw_ok F9 (by omega) (m := 8) (by decide) (by decide)
  obtain ⟨mb, I10, mm⟩ := nums8 (ns := [4, 6, 2, 9, 16, 0, 5, 3]) (by decide) w0' (show w < (([4, 6, 2, 9, 16, 0, 5, 3] : List Int).length : Int) from w1')
  have lmb : mb ≤ 16 := by
    simp only [List.mem_cons, List.not_mem_nil, or_false] at mm
    omega
  have T9 : sSet (e2 gIx (eL (lDisp (aC (eC (.int 4)) (aC (eC (.int 6)) (aC (eC (.int 2)) (aC (eC (.int 9)) (aC (eC (.int 16)) (aC (eC (.int 0)) (aC (eC (.int 5)) (aC (eC (.int 3)) aN)))))))))) (eCall f__law_draw (aC (eV 0) (aC (eC (.int 8)) aN)))) (bName 9) (bE (.d (.lst xs)) (.d (.lst ys)) (.d (.lst bl)) (.d (.tup rows)) (.d (.tup [.tup rows, .tup ps])) (.own prs) (.own []) i9' .un .un .un n9') S9 = some (.nx (bE (.d (.lst xs)) (.d (.lst ys)) (.d (.lst bl)) (.d (.tup rows)) (.d (.tup [.tup rows, .tup ps])) (.own prs) (.own []) i9' (.d (.int (mb : Int))) .un .un n9'), S10) := by
    simp only [List.map_cons, List.map_nil] at I10
    unfold bE
    simp only [runDef, sSeq, sNil, sRet, sIf, sSet, sSetL, sExt, sApp, sPar, sFreeze, sDrop, eC, eV, eP, e1, e2, l2, eL, aN, aC, aG, aGL, tOf, tAndJ, tOrJ, tNotJ, eAnd, eOr, eNot, eIf, eCh, tTru, gTru, eTup, lDisp, iOf, J.items?, iRg1, iRg2, cYes, bName, bTup, bCons, bNil, mN, mD, mO, setsS, eCall, gIsi, gIsi2, isT_tt, gLen, gI0, gLe_i, gGe_i, gGt_i, gLt_i, gAdd_i,  gListL, gTuple, eSl, oN, oS, List.map_cons, List.map_nil, List.map, List.replicate, List.length_cons, List.length_nil, List.nil_append, List.cons_append, List.append_nil, List.set_cons_zero, List.set_cons_succ, List.set, List.length, List.getElem?_cons_zero, List.getElem?_cons_succ, Nat.sub, Nat.reduceSub, Nat.reduceAdd, Nat.reduceLT, Nat.reduceLeDiff, List.getElem?_nil, Bool.false_eq_true, if_true, if_false, Bool.true_and, Bool.false_and, Bool.and_true, Bool.and_false, Bool.not_true, Bool.not_false, Bool.true_or, Bool.or_true, Bool.or_false, Bool.false_or, wipeE, if_pos (sz (k := 8)), q10, I10]
  have f1 := ne_flag w1
  have f2 := ne_flag w2
  have L10 : ∃ cnt : Nat, cnt ≤ 16 ∧ (cnt ≠ 0 → xs ≠ [] ∧ ys ≠ []) ∧ iRg1 (aC (eIf (tAndJ (tOf (e2 (gEq true) (eP 1) (eL (lDisp aN)))) (tOf (e2 (gEq true) (eP 2) (eL (lDisp aN))))) (eV 9) (eC (.int 0))) aN) (bE (.d (.lst xs)) (.d (.lst ys)) (.d (.lst bl)) (.d (.tup rows)) (.d (.tup [.tup rows, .tup ps])) (.own prs) (.own []) i9' (.d (.int (mb : Int))) .un .un n9') S10 = some (ranged 0 cnt, S10) := by
    by_cases h1 : xs = []
    · refine ⟨0, by decide, fun z => absurd rfl z, rg1_at ?_ (by decide)⟩
      subst h1
      simp only [List.isEmpty, Bool.not_true] at f1
      unfold bE
      simp only [runDef, sSeq, sNil, sRet, sIf, sSet, sSetL, sExt, sApp, sPar, sFreeze, sDrop, eC, eV, eP, e1, e2, l2, eL, aN, aC, aG, aGL, tOf, tAndJ, tOrJ, tNotJ, eAnd, eOr, eNot, eIf, eCh, tTru, gTru, eTup, lDisp, iOf, J.items?, iRg1, iRg2, cYes, bName, bTup, bCons, bNil, mN, mD, mO, setsS, eCall, gIsi, gIsi2, isT_tt, gLen, gI0, gLe_i, gGe_i, gGt_i, gLt_i, gAdd_i,  gListL, gTuple, eSl, oN, oS, List.map_cons, List.map_nil, List.map, List.replicate, List.length_cons, List.length_nil, List.nil_append, List.cons_append, List.append_nil, List.set_cons_zero, List.set_cons_succ, List.set, List.length, List.getElem?_cons_zero, List.getElem?_cons_succ, Nat.sub, Nat.reduceSub, Nat.reduceAdd, Nat.reduceLT, Nat.reduceLeDiff, List.getElem?_nil, Bool.false_eq_true, if_true, if_false, Bool.true_and, Bool.false_and, Bool.and_true, Bool.and_false, Bool.not_true, Bool.not_false, Bool.true_or, Bool.or_true, Bool.or_false, Bool.false_or, wipeE, if_pos (sz (k := 0)), f1]
      rfl
    · by_cases h2 : ys = []
      · refine ⟨0, by decide, fun z => absurd rfl z, rg1_at ?_ (by decide)⟩
        subst h2
        simp only [List.isEmpty, Bool.not_true] at f2
        rw [emp h1] at f1
        unfold bE
        simp only [runDef, sSeq, sNil, sRet, sIf, sSet, sSetL, sExt, sApp, sPar, sFreeze, sDrop, eC, eV, eP, e1, e2, l2, eL, aN, aC, aG, aGL, tOf, tAndJ, tOrJ, tNotJ, eAnd, eOr, eNot, eIf, eCh, tTru, gTru, eTup, lDisp, iOf, J.items?, iRg1, iRg2, cYes, bName, bTup, bCons, bNil, mN, mD, mO, setsS, eCall, gIsi, gIsi2, isT_tt, gLen, gI0, gLe_i, gGe_i, gGt_i, gLt_i, gAdd_i,  gListL, gTuple, eSl, oN, oS, List.map_cons, List.map_nil, List.map, List.replicate, List.length_cons, List.length_nil, List.nil_append, List.cons_append, List.append_nil, List.set_cons_zero, List.set_cons_succ, List.set, List.length, List.getElem?_cons_zero, List.getElem?_cons_succ, Nat.sub, Nat.reduceSub, Nat.reduceAdd, Nat.reduceLT, Nat.reduceLeDiff, List.getElem?_nil, Bool.false_eq_true, if_true, if_false, Bool.true_and, Bool.false_and, Bool.and_true, Bool.and_false, Bool.not_true, Bool.not_false, Bool.true_or, Bool.or_true, Bool.or_false, Bool.false_or, wipeE, if_pos (sz (k := 0)), f1, f2]
        rfl
      · refine ⟨mb, lmb, fun _ => ⟨h1, h2⟩, rg1_at ?_ (by omega)⟩
        rw [emp h2] at f2
        rw [emp h1] at f1
        unfold bE
        simp only [runDef, sSeq, sNil, sRet, sIf, sSet, sSetL, sExt, sApp, sPar, sFreeze, sDrop, eC, eV, eP, e1, e2, l2, eL, aN, aC, aG, aGL, tOf, tAndJ, tOrJ, tNotJ, eAnd, eOr, eNot, eIf, eCh, tTru, gTru, eTup, lDisp, iOf, J.items?, iRg1, iRg2, cYes, bName, bTup, bCons, bNil, mN, mD, mO, setsS, eCall, gIsi, gIsi2, isT_tt, gLen, gI0, gLe_i, gGe_i, gGt_i, gLt_i, gAdd_i,  gListL, gTuple, eSl, oN, oS, List.map_cons, List.map_nil, List.map, List.replicate, List.length_cons, List.length_nil, List.nil_append, List.cons_append, List.append_nil, List.set_cons_zero, List.set_cons_succ, List.set, List.length, List.getElem?_cons_zero, List.getElem?_cons_succ, Nat.sub, Nat.reduceSub, Nat.reduceAdd, Nat.reduceLT, Nat.reduceLeDiff, List.getElem?_nil, Bool.false_eq_true, if_true, if_false, Bool.true_and, Bool.false_and, Bool.and_true, Bool.and_false, Bool.not_true, Bool.not_false, Bool.true_or, Bool.or_true, Bool.or_false, Bool.false_or, wipeE, if_pos (sz (k := 0)), f1, f2]
  obtain ⟨cnt, c16, cne, L10⟩ := L10
  obtain ⟨ρ11, S11, e11, i11, F11⟩ := forGo_inv (I := bI (.d (.lst xs)) (.d (.lst ys)) (.d (.tup rows)) (.own prs) i9' (.d (.int (mb : Int))) n9' bl rows ps) (bd := bName 10) (body := B10) (k := 20) (N := 800000 - 1) (L := 20) (by decide) (ranged 0 cnt) 0 _ _ S10 ⟨[], .un, .un, rfl, fun x m => by simp at m, by simp⟩ F10 (by rw [ranged_len]; omega) (by rw [ranged_len]; omega)
    fun x mx n' ρ' B' S' hn' i' F' hB' => by
      have c0 : cnt ≠ 0 := fun z => by
        rw [z] at mx
        unfold ranged at mx
        simp at mx
      have ⟨hx, hy⟩ := cne c0
      have r0 : rows ≠ [] := fun z => hx (List.length_eq_zero_iff.mp (by rw [← lr, z]; rfl))
      have p0 : ps ≠ [] := fun z => hy (List.length_eq_zero_iff.mp (by rw [← lp, z]; rfl))
      exact b_step F' (by omega) or' r0 (by omega) op p0 (by omega) fob nb (by omega) (by omega) i'
  rw [ranged_len] at i11 F11
  obtain ⟨fnB, l11, u11, rfl, hfnd, lfnd⟩ := i11
  have lfd : (fnB.map Bld.d).length ≤ 16 := by rw [List.length_map]; omega
  generalize efn : fnB.map Bld.d = fnd at *
  have T10 := for_at L10 e11
  refine ⟨rowsR, ps, prs, fnB, bl, S11, ?_, by rw [nR]; exact oR, ?_, op, hprs, hfnd, lb, by have := congrArg List.length nR; rw [List.length_map] at this; omega, by omega, by omega, by omega, F11.mono (by omega)⟩
  rotate_left
  · rw [← nR] at nx
    have : (rowsR.map fun r => D.str r.nm) = (rowsR.map (·.nm)).map D.str := by rw [List.map_map]; rfl
    rw [this] at nx
    exact List.Pairwise.of_map D.str (fun _ _ h e => h (by rw [e])) nx
  rw [er, efn]
  have g1 : gAdd (.tup [.tup rows, .tup ps]) (.tup [.tup prs, .tup fnd]) = some (.tup [.tup rows, .tup ps, .tup prs, .tup fnd]) := by
    show (if ([.tup rows, .tup ps] : List D).length + ([.tup prs, .tup fnd] : List D).length ≤ sizeLine then some (D.tup ([.tup rows, .tup ps] ++ [.tup prs, .tup fnd])) else none) = _
    exact if_pos (sz (k := 4))
  have T11 : sRet (e2 gAdd (eP 5) (eTup (aC (aG gTuple (aC (eP 6) aN)) (aC (aG gTuple (aC (eP 7) aN)) aN)))) (bE (.d (.lst xs)) (.d (.lst ys)) (.d (.lst bl)) (.d (.tup rows)) (.d (.tup [.tup rows, .tup ps])) (.own prs) (.own fnd) i9' (.d (.int (mb : Int))) l11 u11 n9') S11 = some (.rt (.tup [.tup rows, .tup ps, .tup prs, .tup fnd]), S11) := by
    unfold bE
    simp only [runDef, sSeq, sNil, sRet, sIf, sSet, sSetL, sExt, sApp, sPar, sFreeze, sDrop, eC, eV, eP, e1, e2, l2, eL, aN, aC, aG, aGL, tOf, tAndJ, tOrJ, tNotJ, eAnd, eOr, eNot, eIf, eCh, tTru, gTru, eTup, lDisp, iOf, J.items?, iRg1, iRg2, cYes, bName, bTup, bCons, bNil, mN, mD, mO, setsS, eCall, gIsi, gIsi2, isT_tt, gLen, gI0, gLe_i, gGe_i, gGt_i, gLt_i, gAdd_i,  gListL, gTuple, eSl, oN, oS, List.map_cons, List.map_nil, List.map, List.replicate, List.length_cons, List.length_nil, List.nil_append, List.cons_append, List.append_nil, List.set_cons_zero, List.set_cons_succ, List.set, List.length, List.getElem?_cons_zero, List.getElem?_cons_succ, Nat.sub, Nat.reduceSub, Nat.reduceAdd, Nat.reduceLT, Nat.reduceLeDiff, List.getElem?_nil, Bool.false_eq_true, if_true, if_false, Bool.true_and, Bool.false_and, Bool.and_true, Bool.and_false, Bool.not_true, Bool.not_false, Bool.true_or, Bool.or_true, Bool.or_false, Bool.false_or, wipeE, if_pos (sz (k := 2)), g1]
  exact run_at ((seq_at T1).trans ((seq_at T2).trans ((seq_at T3).trans ((seq_at T4).trans ((seq_at T5).trans ((seq_at T6).trans ((seq_at T7).trans ((seq_at T8).trans ((seq_at T9).trans ((seq_at T10).trans T11))))))))))
end
end K04

set_option maxHeartbeats 4000000
namespace K04
open PySem PySem.Spec PyProof.Rows L2 J
/-! a check that can be reckoned -/
mutual
def smB (n : Nat) : D → Bool
  | .non => true
  | .bl _ => true
  | .int _ => true
  | .str z => z.cps.toList.all (fun c => Nat.blt c 0x110000) && Nat.ble z.cps.toList.length 1000
  | .lst xs => Nat.ble xs.length 5000 && (match n with | 0 => false | m + 1 => smBs m xs)
  | .tup xs => Nat.ble xs.length 5000 && (match n with | 0 => false | m + 1 => smBs m xs)
  | .frz _ => false
  | .obj _ => false
def smBs (n : Nat) : List D → Bool
  | [] => true
  | x :: r => smB n x && smBs n r
end
mutual
theorem smB_ok : ∀ (n : Nat) (d : D), smB n d = true → gd n d
  | n, .non, _ => gd_non
  | n, .bl _, _ => gd_bl
  | n, .int _, _ => gd_int
  | n, .str z, h => by
    rw [smB, Bool.and_eq_true] at h
    exact gd_str (m := 1000) ⟨fun c m => by
      have q : Nat.blt c 0x110000 = true := List.all_eq_true.mp h.1 c m
      exact Nat.le_of_ble_eq_true q, by rw [len_cps]; exact Nat.le_of_ble_eq_true h.2⟩ (by decide)
  | 0, .lst xs, h => by rw [smB, Bool.and_eq_true] at h; exact absurd h.2 (by decide)
  | 0, .tup xs, h => by rw [smB, Bool.and_eq_true] at h; exact absurd h.2 (by decide)
  | n + 1, .lst xs, h => by
    rw [smB, Bool.and_eq_true] at h
    exact gd_lst (Nat.le_of_ble_eq_true h.1) (smBs_ok n xs h.2)
  | n + 1, .tup xs, h => by
    rw [smB, Bool.and_eq_true] at h
    exact gd_tup (Nat.le_of_ble_eq_true h.1) (smBs_ok n xs h.2)
  | _, .frz _, h => by cases h
  | _, .obj _, h => by cases h
theorem smBs_ok : ∀ (n : Nat) (ds : List D), smBs n ds = true → ∀ x ∈ ds, gd n x
  | _, [], _ => fun x m => by simp at m
  | n, y :: r, h => by
    rw [smBs, Bool.and_eq_true] at h
    exact fun x m => (List.mem_cons.mp m).elim (fun e => by rw [e]; exact smB_ok n y h.1) (smBs_ok n r h.2 x)
end
def odds : List D := [.non, .bl true, .bl false, .int (0), .int (1), .int (-1), .int (2), .int (100000000000000000000000000000000000000000000000000000000000), .str "", .str "a", .str "b9", .str "9a", .str "A", .str "abcdefgh", .str "abcdefghi", .str "a b", .str "-", .str "a-", .tup [], .tup [.str "a"], .tup [.str "a", .str "b"], .tup [.str "b", .str "a"], .tup [.str "a", .str "a"], .lst [], .lst [.str "a"], .tup [.int (1)], .tup [.tup []], .tup [.str "a", .int (1)], .tup [.str "a", .bl true], .tup [.str "a", .int (0)], .str "a\n", .str "a_b", .str "a,b", .tup [.str "a", .non], .tup [.str "a", .str "b", .str "c"], .tup [.tup [.str "a", .str "b"]], .str "0", .str "zzzzzzzz", .tup [.str "zzzzzzzz"], .lst [.tup []]]
theorem odds_ok : ∀ x ∈ odds, gd 3 x := smBs_ok 3 odds (by decide +kernel)
section
variable {B : Int} {S : Store}
theorem odd_ok (F : Fd B S) (hB : B < 900000) : ∃ d S', f__law_odd [.obj 0] S = some (d, S') ∧ gd 3 d ∧ Fd (B + 1) S' := by
  obtain ⟨x, S', q, mx, F'⟩ := pick_l (xs := odds) F (by omega) (by decide) (by decide)
  have E : f__law_odd [.obj 0] S = (match (match f__law_pick [.obj 0, .lst odds] S with | some (x, S1) => some (Out.rt x, S1) | none => none) with | some (.rt d, S') => some (d, S') | some (.nx _, S') => some (.non, S') | _ => none) := by kernel_rfl
  rw [q] at E
  exact ⟨x, S', E, odds_ok x mx, F'⟩
end
end K04

set_option maxHeartbeats 4000000
namespace K04
open PySem PySem.Spec PyProof.Rows L2 J
/-! ### the ascending order, by merging -/
def ltS (a b : Str) : Bool := decide (a.cps.toList < b.cps.toList)
theorem ltS_irrefl (a : Str) : ltS a a = false := decide_eq_false (List.lt_irrefl _)
theorem ltS_trans {a b c : Str} (h : ltS a b = true) (k : ltS b c = true) : ltS a c = true := decide_eq_true (List.lt_trans (of_decide_eq_true h) (of_decide_eq_true k))
theorem ltS_of {a b : Str} (h : ltS b a = false) (k : a ≠ b) : ltS a b = true := by
  have h1 := of_decide_eq_false h
  refine decide_eq_true (Decidable.byContradiction fun z => k (str_ext (List.le_antisymm (List.not_lt.mp h1) (List.not_lt.mp z))))
theorem gLt_s (a b : Str) : gLt (.str a) (.str b) = some (.bl (ltS a b)) := rfl
theorem gEq_s {neg : Bool} {n m : Nat} {a b : Str} (ha : okS n a) (hn : n ≤ 1000) (hb : okS m b) (hm : m ≤ 1000) : gEq neg (.str a) (.str b) = some (.bl (if neg then !decide (a = b) else decide (a = b))) := by
  obtain ⟨y, e, cy, py⟩ := good_py (.str a) (ha.good hn)
  obtain ⟨z, e2, cz, pz⟩ := good_py (.str b) (hb.good hm)
  cases e; cases e2
  have s1 : SeqAt.shaped (.str a) = true := shaped_of cy (by rw [py]; exact Nat.zero_le _)
  have s2 : SeqAt.shaped (.str b) = true := shaped_of cz (by rw [pz]; exact Nat.zero_le _)
  have G : gEq neg (.str a) (.str b) = some (.bl (if neg then !PyData.eqv (.str a) (.str b) else PyData.eqv (.str a) (.str b))) := if_pos ⟨s1, s2⟩
  have E : PyData.eqv (.str a) (.str b) = decide (a = b) := by
    show (a == b) = decide (a = b)
    rw [Bool.eq_iff_iff, decide_eq_true_eq, beq_iff_eq]
  rw [E] at G
  exact G
def Up (l : List Str) : Prop := l.Pairwise fun a b => ltS a b = true
theorem Up.nodup {l : List Str} (h : Up l) : l.Nodup := h.imp fun {a b} q e => by rw [e, ltS_irrefl] at q; cases q
theorem Up.sle {l : List Str} (h : Up l) : l.Pairwise fun a b => sle a b = true := h.imp fun {a b} q => by
  unfold J.sle
  have q2 := of_decide_eq_true q
  rw [decide_eq_false fun z => List.lt_irrefl _ (List.lt_trans q2 z)]; rfl
theorem Up.eq {l xs : List Str} (h : Up l) (m : ∀ y, y ∈ l ↔ y ∈ xs) : l = srt (nub xs) :=
  List.Perm.eq_of_pairwise (le := fun a b => J.sle a b = true) (fun a b _ _ h1 h2 => sle_anti h1 h2) h.sle (List.pairwise_mergeSort sle_trans sle_total (nub xs)) ((nub_only h.nodup m).trans (srt_perm _).symm)
theorem nub_id : ∀ {l : List Str}, l.Nodup → nub l = l
  | [], _ => rfl
  | x :: r, h => by
    have h' := List.nodup_cons.mp h
    rw [nub, nub_id h'.2, if_neg h'.1]
/-- merged without doubles -/
def mg : List Str → List Str → List Str
  | [], r => r
  | a :: l, [] => a :: l
  | a :: l, b :: r => if ltS b a = true then b :: mg (a :: l) r else if a = b then a :: mg l r else a :: mg l (b :: r)
termination_by l r => l.length + r.length
theorem mg_nil (l : List Str) : mg l [] = l := by cases l <;> simp [mg]
theorem mg_mem : ∀ (l r : List Str) (x : Str), x ∈ mg l r ↔ x ∈ l ∨ x ∈ r
  | [], r, x => by simp [mg]
  | a :: l, [], x => by simp [mg]
  | a :: l, b :: r, x => by
    rw [mg]
    split
    · rw [List.mem_cons, mg_mem (a :: l) r x, List.mem_cons, List.mem_cons]
      constructor
      · rintro (h | h | h) <;> simp_all
      · rintro (h | h) <;> rcases h with h | h <;> simp_all
    · split
      · rename_i e
        rw [List.mem_cons, mg_mem l r x, List.mem_cons, List.mem_cons, e]
        constructor
        · rintro (h | h | h) <;> simp_all
        · rintro (h | h) <;> rcases h with h | h <;> simp_all
      · rw [List.mem_cons, mg_mem l (b :: r) x, List.mem_cons, List.mem_cons]
        constructor
        · rintro (h | h | h | h) <;> simp_all
        · rintro (h | h) <;> rcases h with h | h <;> simp_all
termination_by l r => l.length + r.length
theorem mg_len : ∀ (l r : List Str), (mg l r).length ≤ l.length + r.length
  | [], r => by simp [mg]
  | a :: l, [] => by simp [mg]
  | a :: l, b :: r => by
    rw [mg]
    split
    · have := mg_len (a :: l) r; simp only [List.length_cons] at *; omega
    · split
      · have := mg_len l r; simp only [List.length_cons] at *; omega
      · have := mg_len l (b :: r); simp only [List.length_cons] at *; omega
termination_by l r => l.length + r.length
theorem mg_up : ∀ (l r : List Str), Up l → Up r → Up (mg l r)
  | [], r, _, h => by rw [mg]; exact h
  | a :: l, [], h, _ => by rw [mg]; exact h
  | a :: l, b :: r, h1, h2 => by
    have p1 := List.pairwise_cons.mp h1
    have p2 := List.pairwise_cons.mp h2
    rw [mg]
    split
    · rename_i q
      refine List.pairwise_cons.mpr ⟨fun y m => ?_, mg_up (a :: l) r h1 p2.2⟩
      rcases (mg_mem _ _ _).mp m with m | m
      · rcases List.mem_cons.mp m with e | m
        · rw [e]; exact q
        · exact ltS_trans q (p1.1 y m)
      · exact p2.1 y m
    · rename_i q
      have q : ltS b a = false := by simpa using q
      split
      · rename_i e
        refine List.pairwise_cons.mpr ⟨fun y m => ?_, mg_up l r p1.2 p2.2⟩
        rcases (mg_mem _ _ _).mp m with m | m
        · exact p1.1 y m
        · rw [e]; exact p2.1 y m
      · rename_i e
        have lt := ltS_of q e
        refine List.pairwise_cons.mpr ⟨fun y m => ?_, mg_up l (b :: r) p1.2 h2⟩
        rcases (mg_mem _ _ _).mp m with m | m
        · exact p1.1 y m
        · rcases List.mem_cons.mp m with e | m
          · rw [e]; exact lt
          · exact ltS_trans lt (p2.1 y m)
termination_by l r => l.length + r.length
/-! the loop of merged -/
theorem cutD_from {xs : List D} {k : Nat} (h : k ≤ xs.length) : J.cutD xs (some (k : Int)) none = xs.drop k := by
  unfold J.cutD
  rw [HT.sIx_nat, HT.sIx_none, Nat.min_eq_left h, List.take_of_length_le (by rw [List.length_drop]; omega)]
def WM : ET := (tAndJ (tOf (e2 gLt (eP 3) (aG gLen (aC (eP 0) aN)))) (tOf (e2 gLt (eP 4) (aG gLen (aC (eP 1) aN)))))
def BM : GS := (sIf (tOf (e2 gLt (e2 gIx (eP 1) (eP 4)) (e2 gIx (eP 0) (eP 3)))) (sSeq (sApp 2 (e2 gIx (eP 1) (eP 4))) (sAug (fun i j => i + j) 4 (eC (.int 1)))) (sSeq (sIf (tOf (e2 (gEq false) (e2 gIx (eP 0) (eP 3)) (e2 gIx (eP 1) (eP 4)))) (sAug (fun i j => i + j) 4 (eC (.int 1))) sNil) (sSeq (sApp 2 (e2 gIx (eP 0) (eP 3))) (sAug (fun i j => i + j) 3 (eC (.int 1))))))
def mE (l r rows : List D) (i j : Nat) : J.Env := [.d (.lst l), .d (.lst r), .own rows, .d (.int (i : Int)), .d (.int (j : Int))]
theorem len_l (xs : List D) : gLen [.lst xs] = some (.int xs.length) := rfl
theorem wm_at {l r rows : List D} {i j : Nat} {S : Store} : WM (mE l r rows i j) S = some (decide (i < l.length) && decide (j < r.length), S) := by
  unfold WM mE
  simp only [runDef, sSeq, sNil, sRet, sIf, sSet, sSetL, sExt, sApp, sPar, sFreeze, sDrop, eC, eV, eP, e1, e2, l2, eL, aN, aC, aG, aGL, tOf, tAndJ, tOrJ, tNotJ, eAnd, eOr, eNot, eIf, eCh, tTru, gTru, eTup, lDisp, iOf, J.items?, iRg1, iRg2, cYes, bName, bTup, bCons, bNil, mN, mD, mO, setsS, eCall, gIsi, gIsi2, isT_tt, gLen, gI0, gLe_i, gGe_i, gGt_i, gLt_i, gAdd_i,  gListL, gTuple, eSl, oN, oS, List.map_cons, List.map_nil, List.map, List.replicate, List.length_cons, List.length_nil, List.nil_append, List.cons_append, List.append_nil, List.set_cons_zero, List.set_cons_succ, List.set, List.length, List.getElem?_cons_zero, List.getElem?_cons_succ, Nat.sub, Nat.reduceSub, Nat.reduceAdd, Nat.reduceLT, Nat.reduceLeDiff, List.getElem?_nil, Bool.false_eq_true, if_true, if_false, Bool.true_and, Bool.false_and, Bool.and_true, Bool.and_false, Bool.not_true, Bool.not_false, Bool.true_or, Bool.or_true, Bool.or_false, Bool.false_or, wipeE]
  by_cases h : i < l.length
  · simp only [decide_eq_true h, show decide ((i : Int) < (l.length : Int)) = true from decide_eq_true (by omega), Bool.true_and]
    by_cases k : j < r.length
    · simp only [decide_eq_true k, show decide ((j : Int) < (r.length : Int)) = true from decide_eq_true (by omega)]
    · simp only [decide_eq_false k, show decide ((j : Int) < (r.length : Int)) = false from decide_eq_false (by omega)]
  · simp only [decide_eq_false h, show decide ((i : Int) < (l.length : Int)) = false from decide_eq_false (by omega), Bool.false_and]
theorem cast1 (i : Nat) : (i : Int) + 1 = ((i + 1 : Nat) : Int) := by omega
theorem bm_at {l r rows : List Str} {i j n : Nat} {S : Store} (hi : i < l.length) (hj : j < r.length) (hl : ∀ x ∈ l, okS n x) (hr : ∀ x ∈ r, okS n x) (hn : n ≤ 1000) (hz : rows.length < 16777216) :
    BM (mE (l.map D.str) (r.map D.str) (rows.map D.str) i j) S = some (.nx (if ltS r[j] l[i] = true then mE (l.map D.str) (r.map D.str) ((rows ++ [r[j]]).map D.str) i (j + 1) else if l[i] = r[j] then mE (l.map D.str) (r.map D.str) ((rows ++ [l[i]]).map D.str) (i + 1) (j + 1) else mE (l.map D.str) (r.map D.str) ((rows ++ [l[i]]).map D.str) (i + 1) j), S) := by
  have I0 : gIx (.lst (l.map D.str)) (.int (i : Int)) = some (.str l[i]) := by
    rw [gIx_lk (xs := l.map D.str) (by rw [List.length_map]; exact hi), List.getElem_map]
  have I1 : gIx (.lst (r.map D.str)) (.int (j : Int)) = some (.str r[j]) := by
    rw [gIx_lk (xs := r.map D.str) (by rw [List.length_map]; exact hj), List.getElem_map]
  have Q := gEq_s (neg := false) (hl _ (List.getElem_mem hi)) hn (hr _ (List.getElem_mem hj)) hn
  have Z : (rows.map D.str).length < sizeLine := by rw [List.length_map, sizeLine_eq]; exact hz
  rw [List.map_append, List.map_append]
  generalize rows.map D.str = R at *
  unfold BM mE
  cases h : ltS r[j] l[i]
  · simp only [if_false, Bool.false_eq_true] at Q
    by_cases k : l[i] = r[j]
    · rw [decide_eq_true k] at Q
      simp only [runDef, sSeq, sNil, sRet, sIf, sSet, sSetL, sExt, sApp, sPar, sFreeze, sDrop, eC, eV, eP, e1, e2, l2, eL, aN, aC, aG, aGL, tOf, tAndJ, tOrJ, tNotJ, eAnd, eOr, eNot, eIf, eCh, tTru, gTru, eTup, lDisp, iOf, J.items?, iRg1, iRg2, cYes, bName, bTup, bCons, bNil, mN, mD, mO, setsS, eCall, gIsi, gIsi2, isT_tt, gLen, gI0, gLe_i, gGe_i, gGt_i, gLt_i, gAdd_i,  gListL, gTuple, eSl, oN, oS, List.map_cons, List.map_nil, List.map, List.replicate, List.length_cons, List.length_nil, List.nil_append, List.cons_append, List.append_nil, List.set_cons_zero, List.set_cons_succ, List.set, List.length, List.getElem?_cons_zero, List.getElem?_cons_succ, Nat.sub, Nat.reduceSub, Nat.reduceAdd, Nat.reduceLT, Nat.reduceLeDiff, List.getElem?_nil, Bool.false_eq_true, if_true, if_false, Bool.true_and, Bool.false_and, Bool.and_true, Bool.and_false, Bool.not_true, Bool.not_false, Bool.true_or, Bool.or_true, Bool.or_false, Bool.false_or, wipeE, I0, I1, gLt_s, h, Q, sAug, if_pos Z, if_pos k, cast1]
    · rw [decide_eq_false k] at Q
      simp only [runDef, sSeq, sNil, sRet, sIf, sSet, sSetL, sExt, sApp, sPar, sFreeze, sDrop, eC, eV, eP, e1, e2, l2, eL, aN, aC, aG, aGL, tOf, tAndJ, tOrJ, tNotJ, eAnd, eOr, eNot, eIf, eCh, tTru, gTru, eTup, lDisp, iOf, J.items?, iRg1, iRg2, cYes, bName, bTup, bCons, bNil, mN, mD, mO, setsS, eCall, gIsi, gIsi2, isT_tt, gLen, gI0, gLe_i, gGe_i, gGt_i, gLt_i, gAdd_i,  gListL, gTuple, eSl, oN, oS, List.map_cons, List.map_nil, List.map, List.replicate, List.length_cons, List.length_nil, List.nil_append, List.cons_append, List.append_nil, List.set_cons_zero, List.set_cons_succ, List.set, List.length, List.getElem?_cons_zero, List.getElem?_cons_succ, Nat.sub, Nat.reduceSub, Nat.reduceAdd, Nat.reduceLT, Nat.reduceLeDiff, List.getElem?_nil, Bool.false_eq_true, if_true, if_false, Bool.true_and, Bool.false_and, Bool.and_true, Bool.and_false, Bool.not_true, Bool.not_false, Bool.true_or, Bool.or_true, Bool.or_false, Bool.false_or, wipeE, I0, I1, gLt_s, h, Q, sAug, if_pos Z, if_neg k, cast1]
  · simp only [runDef, sSeq, sNil, sRet, sIf, sSet, sSetL, sExt, sApp, sPar, sFreeze, sDrop, eC, eV, eP, e1, e2, l2, eL, aN, aC, aG, aGL, tOf, tAndJ, tOrJ, tNotJ, eAnd, eOr, eNot, eIf, eCh, tTru, gTru, eTup, lDisp, iOf, J.items?, iRg1, iRg2, cYes, bName, bTup, bCons, bNil, mN, mD, mO, setsS, eCall, gIsi, gIsi2, isT_tt, gLen, gI0, gLe_i, gGe_i, gGt_i, gLt_i, gAdd_i,  gListL, gTuple, eSl, oN, oS, List.map_cons, List.map_nil, List.map, List.replicate, List.length_cons, List.length_nil, List.nil_append, List.cons_append, List.append_nil, List.set_cons_zero, List.set_cons_succ, List.set, List.length, List.getElem?_cons_zero, List.getElem?_cons_succ, Nat.sub, Nat.reduceSub, Nat.reduceAdd, Nat.reduceLT, Nat.reduceLeDiff, List.getElem?_nil, Bool.false_eq_true, if_true, if_false, Bool.true_and, Bool.false_and, Bool.and_true, Bool.and_false, Bool.not_true, Bool.not_false, Bool.true_or, Bool.or_true, Bool.or_false, Bool.false_or, wipeE, I0, I1, gLt_s, h, sAug, if_pos Z, cast1]
theorem merged_go {l r : List Str} {n : Nat} {S : Store} (hl : ∀ x ∈ l, okS n x) (hr : ∀ x ∈ r, okS n x) (hn : n ≤ 1000) (hz : l.length + r.length < 16777216) : ∀ (f i j : Nat) (rows : List Str), i ≤ l.length → j ≤ r.length → rows.length ≤ i + j → (l.length - i) + (r.length - j) < f →
    ∃ (i' j' : Nat) (rows' : List Str), whileGo WM BM f (mE (l.map D.str) (r.map D.str) (rows.map D.str) i j) S = some (.nx (mE (l.map D.str) (r.map D.str) (rows'.map D.str) i' j'), S) ∧ i' ≤ l.length ∧ j' ≤ r.length ∧ rows'.length ≤ i' + j' ∧ rows' ++ l.drop i' ++ r.drop j' = rows ++ mg (l.drop i) (r.drop j)
  | 0, i, j, rows, h1, h2, h3, h4 => absurd h4 (by omega)
  | f + 1, i, j, rows, h1, h2, h3, h4 => by
    rw [whileGo, wm_at, List.length_map, List.length_map]
    by_cases hi : i < l.length
    · by_cases hj : j < r.length
      · rw [decide_eq_true hi, decide_eq_true hj]
        simp only [Bool.and_self]
        rw [bm_at hi hj hl hr hn (by omega)]
        simp only
        rw [List.drop_eq_getElem_cons hi, List.drop_eq_getElem_cons hj, mg]
        split
        · obtain ⟨i', j', rows', g1, g2, g3, g4, g5⟩ := merged_go hl hr hn hz f i (j + 1) (rows ++ [r[j]]) h1 (by omega) (by rw [List.length_append, List.length_singleton]; omega) (by omega)
          refine ⟨i', j', rows', g1, g2, g3, g4, ?_⟩
          rw [g5, ← List.drop_eq_getElem_cons hi]; simp
        · split
          · obtain ⟨i', j', rows', g1, g2, g3, g4, g5⟩ := merged_go hl hr hn hz f (i + 1) (j + 1) (rows ++ [l[i]]) (by omega) (by omega) (by rw [List.length_append, List.length_singleton]; omega) (by omega)
            refine ⟨i', j', rows', g1, g2, g3, g4, ?_⟩
            rw [g5]; simp
          · obtain ⟨i', j', rows', g1, g2, g3, g4, g5⟩ := merged_go hl hr hn hz f (i + 1) j (rows ++ [l[i]]) (by omega) (by omega) (by rw [List.length_append, List.length_singleton]; omega) (by omega)
            refine ⟨i', j', rows', g1, g2, g3, g4, ?_⟩
            rw [g5, ← List.drop_eq_getElem_cons hj]; simp
      · rw [decide_eq_true hi, decide_eq_false hj]
        simp only [Bool.and_false]
        refine ⟨i, j, rows, rfl, h1, h2, h3, ?_⟩
        rw [List.drop_eq_nil_of_le (show r.length ≤ j by omega), mg_nil]; simp
    · rw [decide_eq_false hi]
      simp only [Bool.false_and]
      refine ⟨i, j, rows, rfl, h1, h2, h3, ?_⟩
      rw [List.drop_eq_nil_of_le (show l.length ≤ i by omega), mg]; simp
theorem slice_from {i k : Nat} {ρ : J.Env} {S : Store} {xs : List D} {f : EX} (h : f ρ S = some (.lst xs, S)) (hi : ρ[i]? = some (.d (.int (k : Int)))) (hk : k ≤ xs.length) : eSl f (oS (eV i)) oN ρ S = some (.lst (xs.drop k), S) := by
  simp only [eSl, h, oS, eV, hi, oN, gSl, cutD_from hk]
theorem gAdd_l {xs ys : List D} (h : xs.length + ys.length ≤ 16777216) : gAdd (.lst xs) (.lst ys) = some (.lst (xs ++ ys)) := if_pos (by rw [sizeLine_eq]; exact h)
theorem merged_ok {l r : List Str} {n : Nat} {S : Store} (hl : ∀ x ∈ l, okS n x) (hr : ∀ x ∈ r, okS n x) (hn : n ≤ 1000) (hz : l.length + r.length < 100000) : f_merged [.lst (l.map D.str), .lst (r.map D.str)] S = some (.lst ((mg l r).map D.str), S) := by
  obtain ⟨i, j, rows, g1, g2, g3, g4, g5⟩ := merged_go (S := S) hl hr hn (by omega) fuelW 0 0 [] (Nat.zero_le _) (Nat.zero_le _) (Nat.zero_le _) (by show _ < 1000000; omega)
  have T1 : sSetL 2 (lDisp aN) [.d (.lst (l.map D.str)), .d (.lst (r.map D.str)), .un, .un, .un] S = some (.nx [.d (.lst (l.map D.str)), .d (.lst (r.map D.str)), .own [], .un, .un], S) := by
    simp only [runDef, sSeq, sNil, sRet, sIf, sSet, sSetL, sExt, sApp, sPar, sFreeze, sDrop, eC, eV, eP, e1, e2, l2, eL, aN, aC, aG, aGL, tOf, tAndJ, tOrJ, tNotJ, eAnd, eOr, eNot, eIf, eCh, tTru, gTru, eTup, lDisp, iOf, J.items?, iRg1, iRg2, cYes, bName, bTup, bCons, bNil, mN, mD, mO, setsS, eCall, gIsi, gIsi2, isT_tt, gLen, gI0, gLe_i, gGe_i, gGt_i, gLt_i, gAdd_i,  gListL, gTuple, eSl, oN, oS, List.map_cons, List.map_nil, List.map, List.replicate, List.length_cons, List.length_nil, List.nil_append, List.cons_append, List.append_nil, List.set_cons_zero, List.set_cons_succ, List.set, List.length, List.getElem?_cons_zero, List.getElem?_cons_succ, Nat.sub, Nat.reduceSub, Nat.reduceAdd, Nat.reduceLT, Nat.reduceLeDiff, List.getElem?_nil, Bool.false_eq_true, if_true, if_false, Bool.true_and, Bool.false_and, Bool.and_true, Bool.and_false, Bool.not_true, Bool.not_false, Bool.true_or, Bool.or_true, Bool.or_false, Bool.false_or, wipeE, if_pos (sz (k := 0))]
  have T2 : sSet (eC (.int 0)) (bName 3) [.d (.lst (l.map D.str)), .d (.lst (r.map D.str)), .own [], .un, .un] S = some (.nx [.d (.lst (l.map D.str)), .d (.lst (r.map D.str)), .own [], .d (.int 0), .un], S) := rfl
  have T3 : sSet (eC (.int 0)) (bName 4) [.d (.lst (l.map D.str)), .d (.lst (r.map D.str)), .own [], .d (.int 0), .un] S = some (.nx (mE (l.map D.str) (r.map D.str) ([].map D.str) 0 0), S) := rfl
  have A1 := slice_from (i := 3) (k := i) (ρ := mE (l.map D.str) (r.map D.str) (rows.map D.str) i j) (S := S) (f := eP 0) rfl rfl (by rw [List.length_map]; exact g2)
  have A2 := slice_from (i := 4) (k := j) (ρ := mE (l.map D.str) (r.map D.str) (rows.map D.str) i j) (S := S) (f := eP 1) rfl rfl (by rw [List.length_map]; exact g3)
  have T5 : sRet (e2 gAdd (e2 gAdd (eP 2) (eSl (eP 0) (oS (eV 3)) oN)) (eSl (eP 1) (oS (eV 4)) oN)) (mE (l.map D.str) (r.map D.str) (rows.map D.str) i j) S = some (.rt (.lst ((mg l r).map D.str)), S) := by
    refine ret_at (e2_at (e2_at (show eP 2 _ S = some (.lst (rows.map D.str), S) from rfl) A1 (gAdd_l ?_)) A2 ?_)
    · rw [List.length_map, List.length_drop, List.length_map]; omega
    · rw [gAdd_l (by rw [List.length_append, List.length_map, List.length_drop, List.length_map, List.length_drop, List.length_map]; omega), ← List.map_drop, ← List.map_drop, ← List.map_append, ← List.map_append, g5]
      rfl
  exact run_at ((seq_at T1).trans ((seq_at T2).trans ((seq_at T3).trans ((seq_at g1).trans T5))))
end K04

set_option maxHeartbeats 4000000
namespace K04
open PySem PySem.Spec PyProof.Rows L2 J
/-! ### rounds of pairs -/
def pp (rs : List (List Str)) : List (List Str) := (List.range (rs.length / 2)).map fun m => mg (rs.getD (2 * m) []) (rs.getD (2 * m + 1) [])
def prs (rs : List (List Str)) : List (List Str) := pp rs ++ rs.drop (2 * (rs.length / 2))
theorem pp_len (rs : List (List Str)) : (pp rs).length = rs.length / 2 := by unfold pp; rw [List.length_map, List.length_range]
theorem prs_len (rs : List (List Str)) : (prs rs).length = rs.length - rs.length / 2 := by
  unfold prs
  rw [List.length_append, pp_len, List.length_drop]; omega
theorem getD_mem {rs : List (List Str)} {k : Nat} (h : k < rs.length) : rs.getD k [] ∈ rs := by
  rw [List.getD_eq_getElem?_getD, List.getElem?_eq_getElem h]; exact List.getElem_mem h
theorem prs_mem (rs : List (List Str)) (x : Str) : (∃ r ∈ prs rs, x ∈ r) ↔ ∃ r ∈ rs, x ∈ r := by
  unfold prs pp
  constructor
  · rintro ⟨r, mr, mx⟩
    rcases List.mem_append.mp mr with mr | mr
    · obtain ⟨m, mm, rfl⟩ := List.mem_map.mp mr
      have mm := List.mem_range.mp mm
      rcases (mg_mem _ _ _).mp mx with q | q
      · exact ⟨_, getD_mem (by omega), q⟩
      · exact ⟨_, getD_mem (by omega), q⟩
    · exact ⟨r, List.mem_of_mem_drop mr, mx⟩
  · rintro ⟨r, mr, mx⟩
    obtain ⟨k, hk, rfl⟩ := List.getElem_of_mem mr
    by_cases h : k < 2 * (rs.length / 2)
    · refine ⟨mg (rs.getD (2 * (k / 2)) []) (rs.getD (2 * (k / 2) + 1) []), List.mem_append.mpr (.inl (List.mem_map.mpr ⟨k / 2, List.mem_range.mpr (by omega), rfl⟩)), (mg_mem _ _ _).mpr ?_⟩
      have e : rs[k] = rs.getD k [] := by rw [List.getD_eq_getElem?_getD, List.getElem?_eq_getElem hk]; rfl
      rcases Nat.mod_two_eq_zero_or_one k with q | q
      · left; rw [show 2 * (k / 2) = k by omega, ← e]; exact mx
      · right; rw [show 2 * (k / 2) + 1 = k by omega, ← e]; exact mx
    · refine ⟨rs[k], List.mem_append.mpr (.inr ?_), mx⟩
      rw [List.mem_iff_getElem]
      exact ⟨k - 2 * (rs.length / 2), by rw [List.length_drop]; omega, by rw [List.getElem_drop]; congr 1; omega⟩
theorem prs_up {rs : List (List Str)} (h : ∀ r ∈ rs, Up r) : ∀ r ∈ prs rs, Up r := fun r mr => by
  unfold prs pp at mr
  rcases List.mem_append.mp mr with mr | mr
  · obtain ⟨m, mm, rfl⟩ := List.mem_map.mp mr
    have mm := List.mem_range.mp mm
    exact mg_up _ _ (h _ (getD_mem (by omega))) (h _ (getD_mem (by omega)))
  · exact h r (List.mem_of_mem_drop mr)
structure AI (rows : List Str) (rs : List (List Str)) : Prop where
  u : ∀ r ∈ rs, Up r
  m : ∀ x, (∃ r ∈ rs, x ∈ r) ↔ x ∈ rows
  z : rs.length ≤ rows.length
theorem AI.len {rows : List Str} {rs : List (List Str)} (h : AI rows rs) : ∀ r ∈ rs, r.length ≤ rows.length := fun r mr => (h.u r mr).nodup.length_le_of_subset fun x mx => (h.m x).mp ⟨r, mr, mx⟩
theorem AI.prs {rows : List Str} {rs : List (List Str)} (h : AI rows rs) : AI rows (K04.prs rs) := ⟨prs_up h.u, fun x => (prs_mem rs x).trans (h.m x), by rw [prs_len]; have := h.z; omega⟩
theorem AI.nil {rows : List Str} {rs : List (List Str)} (h : AI rows rs) (e : rs = []) : rows = [] := by
  subst e
  cases rows with
  | nil => rfl
  | cons x r =>
    obtain ⟨_, m, _⟩ := (h.m x).mpr List.mem_cons_self
    simp at m
/-! the loop -/
def runsD (rs : List (List Str)) : List D := rs.map fun r => D.lst (r.map D.str)
def aE (rows : D) (rs : List (List Str)) (p : Slot) : J.Env := [.d rows, .d (.lst (runsD rs)), p, .un, .un]
def WA : ET := (tOf (e2 gGt (aG gLen (aC (eP 1) aN)) (eC (.int 1))))
def BA1 : GS := (sSet (eL (lComp [3] (iRg3 (aC (eC (.int 0)) (aC (e2 (gI0 fun i j => i - j) (aG gLen (aC (eP 1) aN)) (eC (.int 1))) (aC (eC (.int 2)) aN)))) (bName 3) cYes (eCall f_merged (aC (e2 gIx (eP 1) (eP 3)) (aC (e2 gIx (eP 1) (e2 gAdd (eP 3) (eC (.int 1)))) aN))))) (bName 2))
def BA2 : GS := (sSet (e2 gAdd (eP 2) (eSl (eP 1) (oS (e2 (gI CMulW fun i j => i * j) (eC (.int 2)) (aG gLen (aC (eP 2) aN)))) oN)) (bName 1))
theorem runs_len (rs : List (List Str)) : (runsD rs).length = rs.length := by unfold runsD; rw [List.length_map]
theorem size_two (n : Nat) : Builtin.Range.rangeSize 0 ((n : Int) - 1) 2 = ((n / 2 : Nat) : Int) := by
  unfold Builtin.Range.rangeSize
  simp only [show ((2 : Int) > 0) from by decide, if_true]
  split <;> omega
theorem small_two {n : Nat} (h : n ≤ 100000) : Builtin.Range.small 0 ((n : Int) - 1) 2 = true := by
  unfold Builtin.Range.small
  rw [size_two]
  simp only [Builtin.Range.rangeFitsLong, Bool.and_eq_true, Bool.or_eq_true, decide_eq_true_eq, beq_iff_eq, show ((2 : Int) > 0) from by decide, if_true]
  omega
theorem rg3_two {r : EL} {ρ : J.Env} {S S1 : Store} {n : Nat} (h : r ρ S = some ([.int 0, .int ((n : Int) - 1), .int 2], S1)) (hn : n ≤ 100000) : iRg3 r ρ S = some (stepped 0 2 (n / 2), S1) := by
  unfold iRg3
  rw [h]
  simp only
  rw [if_pos ⟨⟨by decide, by decide⟩, small_two hn⟩, size_two, Int.toNat_natCast]
theorem ix_run {rs : List (List Str)} {k : Nat} (h : k < rs.length) : gIx (.lst (runsD rs)) (.int (k : Int)) = some (.lst ((rs.getD k []).map D.str)) := by
  rw [gIx_lk (xs := runsD rs) (by rw [runs_len]; exact h)]
  unfold runsD
  rw [List.getElem_map, List.getD_eq_getElem?_getD, List.getElem?_eq_getElem h]; rfl
theorem wa_at {rows : D} {rs : List (List Str)} {p : Slot} {S : Store} : WA (aE rows rs p) S = some (decide (1 < rs.length), S) := by
  unfold WA aE
  simp only [runDef, sSeq, sNil, sRet, sIf, sSet, sSetL, sExt, sApp, sPar, sFreeze, sDrop, eC, eV, eP, e1, e2, l2, eL, aN, aC, aG, aGL, tOf, tAndJ, tOrJ, tNotJ, eAnd, eOr, eNot, eIf, eCh, tTru, gTru, eTup, lDisp, iOf, J.items?, iRg1, iRg2, cYes, bName, bTup, bCons, bNil, mN, mD, mO, setsS, eCall, gIsi, gIsi2, isT_tt, gLen, gI0, gLe_i, gGe_i, gGt_i, gLt_i, gAdd_i,  gListL, gTuple, eSl, oN, oS, List.map_cons, List.map_nil, List.map, List.replicate, List.length_cons, List.length_nil, List.nil_append, List.cons_append, List.append_nil, List.set_cons_zero, List.set_cons_succ, List.set, List.length, List.getElem?_cons_zero, List.getElem?_cons_succ, Nat.sub, Nat.reduceSub, Nat.reduceAdd, Nat.reduceLT, Nat.reduceLeDiff, List.getElem?_nil, Bool.false_eq_true, if_true, if_false, Bool.true_and, Bool.false_and, Bool.and_true, Bool.and_false, Bool.not_true, Bool.not_false, Bool.true_or, Bool.or_true, Bool.or_false, Bool.false_or, wipeE, runs_len]
  rw [Bool.eq_iff_iff.mpr (show (decide ((1 : Int) < (rs.length : Int)) = true ↔ decide (1 < rs.length) = true) by rw [decide_eq_true_eq, decide_eq_true_eq]; omega)]
theorem mul2_i {k : Nat} (h : k < 100000) : gI CMulW (fun i j => i * j) (.int 2) (.int (k : Int)) = some (.int ((2 * k : Nat) : Int)) := by
  have e : (2 : Int) * (k : Int) = ((2 * k : Nat) : Int) := by omega
  have l : ((k : Int)).natAbs.log2 < 30 := log2_lt (by omega) (by omega) (by decide)
  have l2 : (2 : Int).natAbs.log2 = 1 := by decide
  rw [mul_i (i := 2) (j := (k : Int)) (by omega), e]
theorem ba_at {rows : List Str} {rs : List (List Str)} {p : Slot} {d : D} {S : Store} {n : Nat} (A : AI rows rs) (ho : ∀ x ∈ rows, okS n x) (hn : n ≤ 1000) (hz : rows.length ≤ 5000) :
    sSeq BA1 BA2 (aE d rs p) S = some (.nx (aE d (prs rs) (.d (.lst (runsD (pp rs))))), S) := by
  have zl := A.z
  have lp := pp_len rs
  have R : iRg3 (aC (eC (.int 0)) (aC (e2 (gI0 fun i j => i - j) (aG gLen (aC (eP 1) aN)) (eC (.int 1))) (aC (eC (.int 2)) aN))) (aE d rs p) S = some (stepped 0 2 (rs.length / 2), S) := by
    refine rg3_two ?_ (by omega)
    unfold aE
    simp only [runDef, sSeq, sNil, sRet, sIf, sSet, sSetL, sExt, sApp, sPar, sFreeze, sDrop, eC, eV, eP, e1, e2, l2, eL, aN, aC, aG, aGL, tOf, tAndJ, tOrJ, tNotJ, eAnd, eOr, eNot, eIf, eCh, tTru, gTru, eTup, lDisp, iOf, J.items?, iRg1, iRg2, cYes, bName, bTup, bCons, bNil, mN, mD, mO, setsS, eCall, gIsi, gIsi2, isT_tt, gLen, gI0, gLe_i, gGe_i, gGt_i, gLt_i, gAdd_i,  gListL, gTuple, eSl, oN, oS, List.map_cons, List.map_nil, List.map, List.replicate, List.length_cons, List.length_nil, List.nil_append, List.cons_append, List.append_nil, List.set_cons_zero, List.set_cons_succ, List.set, List.length, List.getElem?_cons_zero, List.getElem?_cons_succ, Nat.sub, Nat.reduceSub, Nat.reduceAdd, Nat.reduceLT, Nat.reduceLeDiff, List.getElem?_nil, Bool.false_eq_true, if_true, if_false, Bool.true_and, Bool.false_and, Bool.and_true, Bool.and_false, Bool.not_true, Bool.not_false, Bool.true_or, Bool.or_true, Bool.or_false, Bool.false_or, wipeE, runs_len]
  have C := lComp_map (vs := [3]) (bd := bName 3) (cond := cYes) (elt := eCall f_merged (aC (e2 gIx (eP 1) (eP 3)) (aC (e2 gIx (eP 1) (e2 gAdd (eP 3) (eC (.int 1)))) aN))) (fun x => match x with | .int i => D.lst ((mg (rs.getD i.toNat []) (rs.getD (i.toNat + 1) [])).map D.str) | _ => .non) R (by unfold stepped; rw [List.length_map, List.length_range]; omega) fun x mx => by
    unfold stepped at mx
    obtain ⟨m, mm, rfl⟩ := List.mem_map.mp mx
    have mm := List.mem_range.mp mm
    have e : (0 : Int) + (m : Int) * 2 = ((2 * m : Nat) : Int) := by omega
    rw [e]
    have i1 := ix_run (rs := rs) (k := 2 * m) (by omega)
    have i2 := ix_run (rs := rs) (k := 2 * m + 1) (by omega)
    have l1 := A.len _ (getD_mem (rs := rs) (k := 2 * m) (by omega))
    have l2 := A.len _ (getD_mem (rs := rs) (k := 2 * m + 1) (by omega))
    have M := merged_ok (S := S) (n := n) (l := rs.getD (2 * m) []) (r := rs.getD (2 * m + 1) []) (fun x mx => ho x ((A.m x).mp ⟨_, getD_mem (by omega), mx⟩)) (fun x mx => ho x ((A.m x).mp ⟨_, getD_mem (by omega), mx⟩)) hn (by omega)
    refine ⟨_, rfl, rfl, ?_⟩
    unfold aE
    show _ = some (D.lst ((mg (rs.getD ((2 * m : Nat) : Int).toNat []) (rs.getD (((2 * m : Nat) : Int).toNat + 1) [])).map D.str), S)
    rw [Int.toNat_natCast]
    generalize rs.getD (2 * m) [] = u at *
    generalize rs.getD (2 * m + 1) [] = v at *
    simp only [runDef, sSeq, sNil, sRet, sIf, sSet, sSetL, sExt, sApp, sPar, sFreeze, sDrop, eC, eV, eP, e1, e2, l2, eL, aN, aC, aG, aGL, tOf, tAndJ, tOrJ, tNotJ, eAnd, eOr, eNot, eIf, eCh, tTru, gTru, eTup, lDisp, iOf, J.items?, iRg1, iRg2, cYes, bName, bTup, bCons, bNil, mN, mD, mO, setsS, eCall, gIsi, gIsi2, isT_tt, gLen, gI0, gLe_i, gGe_i, gGt_i, gLt_i, gAdd_i,  gListL, gTuple, eSl, oN, oS, List.map_cons, List.map_nil, List.map, List.replicate, List.length_cons, List.length_nil, List.nil_append, List.cons_append, List.append_nil, List.set_cons_zero, List.set_cons_succ, List.set, List.length, List.getElem?_cons_zero, List.getElem?_cons_succ, Nat.sub, Nat.reduceSub, Nat.reduceAdd, Nat.reduceLT, Nat.reduceLeDiff, List.getElem?_nil, Bool.false_eq_true, if_true, if_false, Bool.true_and, Bool.false_and, Bool.and_true, Bool.and_false, Bool.not_true, Bool.not_false, Bool.true_or, Bool.or_true, Bool.or_false, Bool.false_or, wipeE, i1, i2, cast1, M]
  have E : (stepped 0 2 (rs.length / 2)).map (fun x => match x with | .int i => D.lst ((mg (rs.getD i.toNat []) (rs.getD (i.toNat + 1) [])).map D.str) | _ => .non) = runsD (pp rs) := by
    unfold stepped runsD pp
    rw [List.map_map, List.map_map]
    refine List.map_congr_left fun m _ => ?_
    show D.lst ((mg (rs.getD ((0 : Int) + (m : Int) * 2).toNat []) (rs.getD (((0 : Int) + (m : Int) * 2).toNat + 1) [])).map D.str) = D.lst ((mg (rs.getD (2 * m) []) (rs.getD (2 * m + 1) [])).map D.str)
    rw [show ((0 : Int) + (m : Int) * 2).toNat = 2 * m by omega]
  rw [E] at C
  have T1 : BA1 (aE d rs p) S = some (.nx (aE d rs (.d (.lst (runsD (pp rs))))), S) := set_at (i := 2) (eL_at C)
  have L2 : gLen [.lst (runsD (pp rs))] = some (.int ((rs.length / 2 : Nat) : Int)) := by rw [len_l, runs_len, lp]
  have M2 := mul2_i (k := rs.length / 2) (by omega)
  have S2 : gSl (.lst (runsD rs)) (some ((2 * (rs.length / 2) : Nat) : Int)) none = some (.lst (runsD (rs.drop (2 * (rs.length / 2))))) := by
    show some (D.lst (J.cutD (runsD rs) (some ((2 * (rs.length / 2) : Nat) : Int)) none)) = _
    rw [cutD_from (by rw [runs_len]; omega)]
    unfold runsD
    rw [List.map_drop]
  have G2 : gAdd (.lst (runsD (pp rs))) (.lst (runsD (rs.drop (2 * (rs.length / 2))))) = some (.lst (runsD (prs rs))) := by
    rw [gAdd_l (by rw [runs_len, runs_len, lp, List.length_drop]; omega)]
    unfold runsD prs
    rw [List.map_append]
  have T2 : BA2 (aE d rs (.d (.lst (runsD (pp rs))))) S = some (.nx (aE d (prs rs) (.d (.lst (runsD (pp rs))))), S) := by
    unfold BA2 aE
    generalize runsD (pp rs) = u at *
    generalize runsD (prs rs) = v at *
    generalize runsD (rs.drop (2 * (rs.length / 2))) = w at *
    generalize runsD rs = y at *
    simp only [eSl, oS, oN, e2, eP, eC, aG, aC, aN, sSet, bName, List.getElem?_cons_zero, List.getElem?_cons_succ, L2, M2, S2, G2, List.set_cons_zero, List.set_cons_succ]
  exact (seq_at T1).trans T2
theorem asc_go {rows : List Str} {d : D} {S : Store} {n : Nat} (ho : ∀ x ∈ rows, okS n x) (hn : n ≤ 1000) (hz : rows.length ≤ 5000) : ∀ (f : Nat) (rs : List (List Str)) (p : Slot), AI rows rs → rs.length ≤ f →
    ∃ rs' p', whileGo WA (sSeq BA1 BA2) (f + 1) (aE d rs p) S = some (.nx (aE d rs' p'), S) ∧ AI rows rs' ∧ rs'.length ≤ 1
  | 0, rs, p, A, h => by
    rw [whileGo, wa_at, decide_eq_false (by omega)]
    exact ⟨rs, p, rfl, A, by omega⟩
  | f + 1, rs, p, A, h => by
    by_cases k : 1 < rs.length
    · obtain ⟨rs', p', g1, g2, g3⟩ := asc_go ho hn hz f (prs rs) (.d (.lst (runsD (pp rs)))) A.prs (by rw [prs_len]; omega)
      refine ⟨rs', p', ?_, g2, g3⟩
      rw [whileGo, wa_at, decide_eq_true k]
      simp only
      rw [ba_at A ho hn hz]
      exact g1
    · rw [whileGo, wa_at, decide_eq_false k]
      exact ⟨rs, p, rfl, A, by omega⟩
theorem asc_ok {rows : List Str} {S : Store} {n : Nat} (ho : ∀ x ∈ rows, okS n x) (hn : n ≤ 1000) (hz : rows.length ≤ 5000) : f_ascending [.lst (rows.map D.str)] S = some (.tup ((srt (nub rows)).map D.str), S) := by
  have A0 : AI rows (rows.map fun x => [x]) := ⟨fun r m => by
    obtain ⟨x, _, rfl⟩ := List.mem_map.mp m
    exact List.pairwise_singleton _ _, fun x => by
    constructor
    · rintro ⟨r, m, mx⟩
      obtain ⟨y, my, rfl⟩ := List.mem_map.mp m
      rw [List.mem_singleton.mp mx]; exact my
    · intro m
      exact ⟨[x], List.mem_map.mpr ⟨x, m, rfl⟩, List.mem_singleton.mpr rfl⟩, by rw [List.length_map]; exact Nat.le_refl _⟩
  have C := lComp_map (vs := [4]) (l := iOf (eP 0)) (bd := bName 4) (cond := cYes) (elt := eL (lDisp (aC (eV 4) aN))) (ρ := [.d (.lst (rows.map D.str)), .un, .un, .un, .un]) (S := S) (xs := rows.map D.str) (fun x => .lst [x]) rfl (by rw [List.length_map]; omega) fun x _ => ⟨_, rfl, rfl, by simp only [runDef, sSeq, sNil, sRet, sIf, sSet, sSetL, sExt, sApp, sPar, sFreeze, sDrop, eC, eV, eP, e1, e2, l2, eL, aN, aC, aG, aGL, tOf, tAndJ, tOrJ, tNotJ, eAnd, eOr, eNot, eIf, eCh, tTru, gTru, eTup, lDisp, iOf, J.items?, iRg1, iRg2, cYes, bName, bTup, bCons, bNil, mN, mD, mO, setsS, eCall, gIsi, gIsi2, isT_tt, gLen, gI0, gLe_i, gGe_i, gGt_i, gLt_i, gAdd_i,  gListL, gTuple, eSl, oN, oS, List.map_cons, List.map_nil, List.map, List.replicate, List.length_cons, List.length_nil, List.nil_append, List.cons_append, List.append_nil, List.set_cons_zero, List.set_cons_succ, List.set, List.length, List.getElem?_cons_zero, List.getElem?_cons_succ, Nat.sub, Nat.reduceSub, Nat.reduceAdd, Nat.reduceLT, Nat.reduceLeDiff, List.getElem?_nil, Bool.false_eq_true, if_true, if_false, Bool.true_and, Bool.false_and, Bool.and_true, Bool.and_false, Bool.not_true, Bool.not_false, Bool.true_or, Bool.or_true, Bool.or_false, Bool.false_or, wipeE, if_pos (sz (k := 1))]⟩
  have E : (rows.map D.str).map (fun x => D.lst [x]) = runsD (rows.map fun x => [x]) := by
    unfold runsD
    rw [List.map_map, List.map_map]; rfl
  rw [E] at C
  have T1 : sSet (eL (lComp [4] (iOf (eP 0)) (bName 4) cYes (eL (lDisp (aC (eV 4) aN))))) (bName 1) [.d (.lst (rows.map D.str)), .un, .un, .un, .un] S = some (.nx (aE (.lst (rows.map D.str)) (rows.map fun x => [x]) .un), S) := set_at (i := 1) (eL_at C)
  obtain ⟨rs, p, g1, g2, g3⟩ := asc_go (d := .lst (rows.map D.str)) (S := S) ho hn hz 999999 (rows.map fun x => [x]) .un A0 (by rw [List.length_map]; omega)
  have T3 : sRet (eIf (tTru (eP 1)) (aG gTuple (aC (e2 gIx (eP 1) (eC (.int 0))) aN)) (eTup aN)) (aE (.lst (rows.map D.str)) rs p) S = some (.rt (.tup ((srt (nub rows)).map D.str)), S) := by
    refine ret_at ?_
    match rs, g2, g3 with
    | [], g2, _ =>
      rw [g2.nil rfl]
      unfold aE runsD
      simp only [runDef, sSeq, sNil, sRet, sIf, sSet, sSetL, sExt, sApp, sPar, sFreeze, sDrop, eC, eV, eP, e1, e2, l2, eL, aN, aC, aG, aGL, tOf, tAndJ, tOrJ, tNotJ, eAnd, eOr, eNot, eIf, eCh, tTru, gTru, eTup, lDisp, iOf, J.items?, iRg1, iRg2, cYes, bName, bTup, bCons, bNil, mN, mD, mO, setsS, eCall, gIsi, gIsi2, isT_tt, gLen, gI0, gLe_i, gGe_i, gGt_i, gLt_i, gAdd_i,  gListL, gTuple, eSl, oN, oS, List.map_cons, List.map_nil, List.map, List.replicate, List.length_cons, List.length_nil, List.nil_append, List.cons_append, List.append_nil, List.set_cons_zero, List.set_cons_succ, List.set, List.length, List.getElem?_cons_zero, List.getElem?_cons_succ, Nat.sub, Nat.reduceSub, Nat.reduceAdd, Nat.reduceLT, Nat.reduceLeDiff, List.getElem?_nil, Bool.false_eq_true, if_true, if_false, Bool.true_and, Bool.false_and, Bool.and_true, Bool.and_false, Bool.not_true, Bool.not_false, Bool.true_or, Bool.or_true, Bool.or_false, Bool.false_or, wipeE, List.isEmpty, if_pos (sz (k := 0))]
      simp [nub, srt]
    | [r], g2, _ =>
      have := (g2.u r List.mem_cons_self).eq (xs := rows) fun y => ⟨fun m => (g2.m y).mp ⟨r, List.mem_cons_self, m⟩, fun m => by
        obtain ⟨r', m', my⟩ := (g2.m y).mpr m
        rw [List.mem_singleton.mp m'] at my; exact my⟩
      rw [← this]
      unfold aE runsD
      simp only [runDef, sSeq, sNil, sRet, sIf, sSet, sSetL, sExt, sApp, sPar, sFreeze, sDrop, eC, eV, eP, e1, e2, l2, eL, aN, aC, aG, aGL, tOf, tAndJ, tOrJ, tNotJ, eAnd, eOr, eNot, eIf, eCh, tTru, gTru, eTup, lDisp, iOf, J.items?, iRg1, iRg2, cYes, bName, bTup, bCons, bNil, mN, mD, mO, setsS, eCall, gIsi, gIsi2, isT_tt, gLen, gI0, gLe_i, gGe_i, gGt_i, gLt_i, gAdd_i,  gListL, gTuple, eSl, oN, oS, List.map_cons, List.map_nil, List.map, List.replicate, List.length_cons, List.length_nil, List.nil_append, List.cons_append, List.append_nil, List.set_cons_zero, List.set_cons_succ, List.set, List.length, List.getElem?_cons_zero, List.getElem?_cons_succ, Nat.sub, Nat.reduceSub, Nat.reduceAdd, Nat.reduceLT, Nat.reduceLeDiff, List.getElem?_nil, Bool.false_eq_true, if_true, if_false, Bool.true_and, Bool.false_and, Bool.and_true, Bool.and_false, Bool.not_true, Bool.not_false, Bool.true_or, Bool.or_true, Bool.or_false, Bool.false_or, wipeE, List.isEmpty, gIx_l0]
  exact run_at ((seq_at T1).trans ((seq_at g1).trans T3))
end K04

set_option maxHeartbeats 4000000
namespace K04
open PySem PySem.Spec PyProof.Rows L2 J
theorem srt_nub_eq {X Y : List Str} (h : ∀ y, y ∈ X ↔ y ∈ Y) : srt (nub X) = srt (nub Y) :=
  List.Perm.eq_of_pairwise (le := fun a b => J.sle a b = true) (fun a b _ _ h1 h2 => sle_anti h1 h2) (List.pairwise_mergeSort sle_trans sle_total (nub X)) (List.pairwise_mergeSort sle_trans sle_total (nub Y))
    ((srt_perm _).trans ((nub_only (nub_nodup X) fun y => nub_mem.trans (h y)).trans (srt_perm _).symm))
theorem call1_at {G : FN} {f : EX} {ρ : J.Env} {S S1 : Store} {x : D} (h : f ρ S = some (x, S1)) : eCall G (aC f aN) ρ S = G [x] S1 := by
  simp only [eCall, aC, aN, h]
theorem call2_at {G : FN} {f g : EX} {ρ : J.Env} {S S1 S2 : Store} {x y : D} (h : f ρ S = some (x, S1)) (k : g ρ S1 = some (y, S2)) : eCall G (aC f (aC g aN)) ρ S = G [x, y] S2 := by
  simp only [eCall, aC, aN, h, k]
/-! ### the files -/
def Bld.fs (b : Bld) : List Str := match b.comp with | none => [b.last] | some z => z :: b.given ++ [b.last]
theorem Bld.fs_ls {b : Bld} (o : b.ok) (y : Str) : y ∈ b.fs ↔ y ∈ b.ls := by
  unfold Bld.fs Bld.ls
  cases h : b.comp with
  | none => simp [o.n h]
  | some z => simp; grind
theorem Bld.fs_ok {b : Bld} (o : b.ok) : ∀ z ∈ b.fs, okS 40 z := fun z m => by
  have m := (Bld.fs_ls o z).mp m
  unfold Bld.ls at m
  rcases List.mem_append.mp m with m | m
  · rcases List.mem_append.mp m with m | m
    · exact o.g z m
    · rw [List.mem_singleton.mp m]; exact o.l
  · exact o.c z (by simpa using m)
theorem Bld.fs_len {b : Bld} (o : b.ok) : b.fs.length ≤ 7 := by
  unfold Bld.fs
  have := o.gz
  split
  · simp
  · rw [List.length_append, List.length_cons, List.length_singleton]; omega
theorem Bld.ls_len {b : Bld} (o : b.ok) : b.ls.length ≤ 7 := by
  unfold Bld.ls
  have := o.gz
  rw [List.length_append, List.length_append, List.length_singleton]
  cases b.comp <;> simp <;> omega
theorem gIx_5a {a b c d e : D} : gIx (.tup [a, b, c, d, e]) (.int 0) = some a := rfl
theorem gIx_5b {a b c d e : D} : gIx (.tup [a, b, c, d, e]) (.int 1) = some b := rfl
theorem gIx_5c {a b c d e : D} : gIx (.tup [a, b, c, d, e]) (.int 2) = some c := rfl
theorem gIx_5d {a b c d e : D} : gIx (.tup [a, b, c, d, e]) (.int 3) = some d := rfl
theorem gIx_5e {a b c d e : D} : gIx (.tup [a, b, c, d, e]) (.int 4) = some e := rfl
theorem gIx_4a {a b c d : D} : gIx (.tup [a, b, c, d]) (.int 0) = some a := rfl
theorem gIx_4b {a b c d : D} : gIx (.tup [a, b, c, d]) (.int 1) = some b := rfl
theorem gIx_4d {a b c d : D} : gIx (.tup [a, b, c, d]) (.int 3) = some d := rfl
theorem gIx_2a {a b : D} : gIx (.tup [a, b]) (.int 0) = some a := rfl
theorem gSl_54 {a b c d e : D} : gSl (.tup [a, b, c, d, e]) (some 4) none = some (.tup [e]) := rfl
theorem gAdd_t {xs ys : List D} (h : xs.length + ys.length ≤ 16777216) : gAdd (.tup xs) (.tup ys) = some (.tup (xs ++ ys)) := if_pos (by rw [sizeLine_eq]; exact h)
theorem gIs_nn {neg : Bool} : gIs neg .non .non = some (.bl (!neg)) := rfl
theorem gIs_str {neg : Bool} {z : Str} : gIs neg (.str z) .non = some (.bl neg) := rfl
theorem files_in_ok {b : Bld} {S : Store} (o : b.ok) : f_files_in [b.d] S = some (.tup (b.fs.map D.str), S) := by
  have gz := o.gz
  unfold f_files_in g_files_in Bld.d Bld.c Bld.fs
  cases h : b.comp with
  | none => simp only [runDef, sSeq, sNil, sRet, sIf, sSet, sSetL, sExt, sApp, sPar, sFreeze, sDrop, eC, eV, eP, e1, e2, l2, eL, aN, aC, aG, aGL, tOf, tAndJ, tOrJ, tNotJ, eAnd, eOr, eNot, eIf, eCh, tTru, gTru, eTup, lDisp, iOf, J.items?, iRg1, iRg2, cYes, bName, bTup, bCons, bNil, mN, mD, mO, setsS, eCall, gIsi, gIsi2, isT_tt, gLen, gI0, gLe_i, gGe_i, gGt_i, gLt_i, gAdd_i,  gListL, gTuple, eSl, oN, oS, List.map_cons, List.map_nil, List.map, List.replicate, List.length_cons, List.length_nil, List.nil_append, List.cons_append, List.append_nil, List.set_cons_zero, List.set_cons_succ, List.set, List.length, List.getElem?_cons_zero, List.getElem?_cons_succ, Nat.sub, Nat.reduceSub, Nat.reduceAdd, Nat.reduceLT, Nat.reduceLeDiff, List.getElem?_nil, Bool.false_eq_true, if_true, if_false, Bool.true_and, Bool.false_and, Bool.and_true, Bool.and_false, Bool.not_true, Bool.not_false, Bool.true_or, Bool.or_true, Bool.or_false, Bool.false_or, wipeE, gIx_5b, gIs_nn, gSl_54]
  | some z =>
    have g1 : gAdd (.tup [.str z]) (.tup (b.given.map D.str)) = some (.tup (.str z :: b.given.map D.str)) := gAdd_t (by rw [List.length_map, List.length_singleton]; omega)
    have g2 : gAdd (.tup (.str z :: b.given.map D.str)) (.tup [.str b.last]) = some (.tup (.str z :: b.given.map D.str ++ [.str b.last])) := gAdd_t (by rw [List.length_cons, List.length_map, List.length_singleton]; omega)
    simp only [runDef, sSeq, sNil, sRet, sIf, sSet, sSetL, sExt, sApp, sPar, sFreeze, sDrop, eC, eV, eP, e1, e2, l2, eL, aN, aC, aG, aGL, tOf, tAndJ, tOrJ, tNotJ, eAnd, eOr, eNot, eIf, eCh, tTru, gTru, eTup, lDisp, iOf, J.items?, iRg1, iRg2, cYes, bName, bTup, bCons, bNil, mN, mD, mO, setsS, eCall, gIsi, gIsi2, isT_tt, gLen, gI0, gLe_i, gGe_i, gGt_i, gLt_i, gAdd_i,  gListL, gTuple, eSl, oN, oS, List.map_cons, List.map_nil, List.map, List.replicate, List.length_cons, List.length_nil, List.nil_append, List.cons_append, List.append_nil, List.set_cons_zero, List.set_cons_succ, List.set, List.length, List.getElem?_cons_zero, List.getElem?_cons_succ, Nat.sub, Nat.reduceSub, Nat.reduceAdd, Nat.reduceLT, Nat.reduceLeDiff, List.getElem?_nil, Bool.false_eq_true, if_true, if_false, Bool.true_and, Bool.false_and, Bool.and_true, Bool.and_false, Bool.not_true, Bool.not_false, Bool.true_or, Bool.or_true, Bool.or_false, Bool.false_or, wipeE, gIx_5b, gIx_5d, gIs_str, gSl_54, if_pos (sz (k := 1)), g1, g2, List.map_append]
theorem lcGo2_files {ρ : J.Env} {S : Store} {d : D} {s : Slot} : ∀ bs : List Bld, (∀ b ∈ bs, b.ok) → lcGo2 (bName 1) cYes [2] (iOf (eCall f_files_in (aC (eV 1) aN))) (bName 2) cYes (eV 2) [.d d, s, .un] (bs.map Bld.d) S = some ((bs.flatMap Bld.fs).map D.str, S)
  | [], _ => rfl
  | b :: bs, h => by
    have ih := lcGo2_files (S := S) (d := d) (s := s) (ρ := ρ) bs fun x m => h x (List.mem_cons_of_mem _ m)
    have F := files_in_ok (S := S) (h b List.mem_cons_self)
    have I : iOf (eCall f_files_in (aC (eV 1) aN)) [.d d, .d b.d, .un] S = some (b.fs.map D.str, S) := by
      simp only [runDef, sSeq, sNil, sRet, sIf, sSet, sSetL, sExt, sApp, sPar, sFreeze, sDrop, eC, eV, eP, e1, e2, l2, eL, aN, aC, aG, aGL, tOf, tAndJ, tOrJ, tNotJ, eAnd, eOr, eNot, eIf, eCh, tTru, gTru, eTup, lDisp, iOf, J.items?, iRg1, iRg2, cYes, bName, bTup, bCons, bNil, mN, mD, mO, setsS, eCall, gIsi, gIsi2, isT_tt, gLen, gI0, gLe_i, gGe_i, gGt_i, gLt_i, gAdd_i,  gListL, gTuple, eSl, oN, oS, List.map_cons, List.map_nil, List.map, List.replicate, List.length_cons, List.length_nil, List.nil_append, List.cons_append, List.append_nil, List.set_cons_zero, List.set_cons_succ, List.set, List.length, List.getElem?_cons_zero, List.getElem?_cons_succ, Nat.sub, Nat.reduceSub, Nat.reduceAdd, Nat.reduceLT, Nat.reduceLeDiff, List.getElem?_nil, Bool.false_eq_true, if_true, if_false, Bool.true_and, Bool.false_and, Bool.and_true, Bool.and_false, Bool.not_true, Bool.not_false, Bool.true_or, Bool.or_true, Bool.or_false, Bool.false_or, wipeE, F]
    have C := lcGo_map (bd := bName 2) (cond := cYes) (elt := eV 2) (ρ := [.d d, .d b.d, .un]) (S := S) (fun x => x) (b.fs.map D.str) fun x _ => ⟨_, rfl, rfl, rfl⟩
    rw [List.map_id'] at C
    rw [List.map_cons, lcGo2, show bName 1 b.d [.d d, s, .un] = some [.d d, .d b.d, .un] from rfl]
    simp only [cYes]
    rw [I]
    simp only
    rw [show wipeE [.d d, .d b.d, .un] [2] = [.d d, .d b.d, .un] from rfl]
    rw [C]
    simp only
    rw [ih, List.flatMap_cons, List.map_append]
theorem flat_len {f : Bld → List Str} {k : Nat} : ∀ bs : List Bld, (∀ b ∈ bs, (f b).length ≤ k) → (bs.flatMap f).length ≤ k * bs.length
  | [], _ => by simp
  | b :: bs, h => by
    have := flat_len bs fun x m => h x (List.mem_cons_of_mem _ m)
    have h1 := h b List.mem_cons_self
    rw [List.flatMap_cons, List.length_append, List.length_cons, Nat.mul_add, Nat.mul_one]; omega
def bookD (rs ps prs bs : List D) : D := .tup [.tup rs, .tup ps, .tup prs, .tup bs]
theorem files_of_ok {rs ps prs : List D} {bs : List Bld} {S : Store} (h : ∀ b ∈ bs, b.ok) (hz : bs.length ≤ 20) : f_files_of [bookD rs ps prs (bs.map Bld.d)] S = some (.tup ((srt (nub (bs.flatMap Bld.fs))).map D.str), S) := by
  have G := lcGo2_files (S := S) (d := bookD rs ps prs (bs.map Bld.d)) (s := .un) (ρ := []) bs h
  have l := flat_len (f := Bld.fs) (k := 7) bs fun b m => Bld.fs_len (h b m)
  have A := asc_ok (rows := bs.flatMap Bld.fs) (S := S) (n := 40) (fun x m => by
    obtain ⟨b, mb, mx⟩ := List.mem_flatMap.mp m
    exact Bld.fs_ok (h b mb) x mx) (by decide) (by omega)
  have C : lComp2 [1, 2] [2] (iOf (e2 gIx (eP 0) (eC (.int 3)))) (bName 1) cYes (iOf (eCall f_files_in (aC (eV 1) aN))) (bName 2) cYes (eV 2) [.d (bookD rs ps prs (bs.map Bld.d)), .un, .un] S = some ((bs.flatMap Bld.fs).map D.str, S) := by
    unfold lComp2
    rw [show iOf (e2 gIx (eP 0) (eC (.int 3))) [.d (bookD rs ps prs (bs.map Bld.d)), .un, .un] S = some (bs.map Bld.d, S) from rfl]
    simp only
    rw [show wipeE [.d (bookD rs ps prs (bs.map Bld.d)), .un, .un] [1, 2] = [.d (bookD rs ps prs (bs.map Bld.d)), .un, .un] from rfl, G]
    exact if_pos (by rw [List.length_map, sizeLine_eq]; omega)
  refine run_at (ret_at ?_)
  show eCall f_ascending (aC (eL (lComp2 [1, 2] [2] (iOf (e2 gIx (eP 0) (eC (.int 3)))) (bName 1) cYes (iOf (eCall f_files_in (aC (eV 1) aN))) (bName 2) cYes (eV 2))) aN) [.d (bookD rs ps prs (bs.map Bld.d)), .un, .un] S = _
  exact (call1_at (eL_at C)).trans A
/-! the law's own -/
def BF : GS := (sExt 1 (eL (l2 gCatL (eL (l2 gCatL (eL (aGL gListL (aC (eP 5) aN))) (eL (lDisp (aC (eV 6) aN))))) (eIf (tOf (e2 (gIs true) (eP 3) (eC .non))) (eL (lDisp (aC (eV 3) aN))) (eL (lDisp aN))))))
def bdF : BD := (bTup 5 (bCons (bName 2) (bCons (bName 3) (bCons (bName 4) (bCons (bName 5) (bCons (bName 6) bNil))))))
theorem gCat_l {xs ys : List D} (h : xs.length + ys.length ≤ 16777216) : gCatL (.lst xs) (.lst ys) = some (xs ++ ys) := if_pos (by rw [sizeLine_eq]; exact h)
theorem bf_at {b : Bld} {W : D} {found : List D} {s2 s3 s4 s5 s6 : Slot} {S : Store} (o : b.ok) (hz : found.length ≤ 100000) : ∃ ρ1, bdF b.d [.d W, .own found, s2, s3, s4, s5, s6] = some ρ1 ∧ ∃ t2 t3 t4 t5 t6, BF ρ1 S = some (.nx [.d W, .own (found ++ b.ls.map D.str), t2, t3, t4, t5, t6], S) := by
  have gz := o.gz
  refine ⟨_, rfl, .d (.str b.by_), .d b.c, .d (.str b.src), .d (.tup (b.given.map D.str)), .d (.str b.last), ?_⟩
  have lg : (b.given.map D.str).length = b.given.length := List.length_map _
  have g1 : gCatL (.lst (b.given.map D.str)) (.lst [.str b.last]) = some (b.given.map D.str ++ [.str b.last]) := gCat_l (by rw [lg, List.length_singleton]; omega)
  have e : b.ls.map D.str = b.given.map D.str ++ [.str b.last] ++ b.comp.toList.map D.str := by unfold Bld.ls; rw [List.map_append, List.map_append]; rfl
  have c1 : (b.comp.toList.map D.str).length ≤ 1 := by rw [List.length_map]; cases b.comp <;> simp
  have g2 : gCatL (.lst (b.given.map D.str ++ [.str b.last])) (.lst (b.comp.toList.map D.str)) = some (b.ls.map D.str) := by
    rw [e]
    exact gCat_l (by rw [List.length_append, lg, List.length_singleton]; omega)
  have z : found.length + (b.ls.map D.str).length ≤ sizeLine := by have := Bld.ls_len o; rw [List.length_map, sizeLine_eq]; omega
  generalize b.ls.map D.str = u at *
  unfold BF Bld.c
  cases h : b.comp with
  | none =>
    rw [h] at g2
    have g2' : gCatL (.lst (b.given.map D.str ++ [.str b.last])) (.lst []) = some u := g2
    simp only [runDef, sSeq, sNil, sRet, sIf, sSet, sSetL, sExt, sApp, sPar, sFreeze, sDrop, eC, eV, eP, e1, e2, l2, eL, aN, aC, aG, aGL, tOf, tAndJ, tOrJ, tNotJ, eAnd, eOr, eNot, eIf, eCh, tTru, gTru, eTup, lDisp, iOf, J.items?, iRg1, iRg2, cYes, bName, bTup, bCons, bNil, mN, mD, mO, setsS, eCall, gIsi, gIsi2, isT_tt, gLen, gI0, gLe_i, gGe_i, gGt_i, gLt_i, gAdd_i,  gListL, gTuple, eSl, oN, oS, List.map_cons, List.map_nil, List.map, List.replicate, List.length_cons, List.length_nil, List.nil_append, List.cons_append, List.append_nil, List.set_cons_zero, List.set_cons_succ, List.set, List.length, List.getElem?_cons_zero, List.getElem?_cons_succ, Nat.sub, Nat.reduceSub, Nat.reduceAdd, Nat.reduceLT, Nat.reduceLeDiff, List.getElem?_nil, Bool.false_eq_true, if_true, if_false, Bool.true_and, Bool.false_and, Bool.and_true, Bool.and_false, Bool.not_true, Bool.not_false, Bool.true_or, Bool.or_true, Bool.or_false, Bool.false_or, wipeE, gIs_nn, g1, g2', if_pos (sz (k := 0)), if_pos (sz (k := 1)), if_pos z]
  | some q =>
    rw [h] at g2
    have g2' : gCatL (.lst (b.given.map D.str ++ [.str b.last])) (.lst [.str q]) = some u := g2
    simp only [runDef, sSeq, sNil, sRet, sIf, sSet, sSetL, sExt, sApp, sPar, sFreeze, sDrop, eC, eV, eP, e1, e2, l2, eL, aN, aC, aG, aGL, tOf, tAndJ, tOrJ, tNotJ, eAnd, eOr, eNot, eIf, eCh, tTru, gTru, eTup, lDisp, iOf, J.items?, iRg1, iRg2, cYes, bName, bTup, bCons, bNil, mN, mD, mO, setsS, eCall, gIsi, gIsi2, isT_tt, gLen, gI0, gLe_i, gGe_i, gGt_i, gLt_i, gAdd_i,  gListL, gTuple, eSl, oN, oS, List.map_cons, List.map_nil, List.map, List.replicate, List.length_cons, List.length_nil, List.nil_append, List.cons_append, List.append_nil, List.set_cons_zero, List.set_cons_succ, List.set, List.length, List.getElem?_cons_zero, List.getElem?_cons_succ, Nat.sub, Nat.reduceSub, Nat.reduceAdd, Nat.reduceLT, Nat.reduceLeDiff, List.getElem?_nil, Bool.false_eq_true, if_true, if_false, Bool.true_and, Bool.false_and, Bool.and_true, Bool.and_false, Bool.not_true, Bool.not_false, Bool.true_or, Bool.or_true, Bool.or_false, Bool.false_or, wipeE, gIs_str, g1, g2', if_pos (sz (k := 0)), if_pos (sz (k := 1)), if_pos z]
theorem bf_go {W : D} {S : Store} : ∀ (bs : List Bld) (found : List D) (s2 s3 s4 s5 s6 : Slot), (∀ b ∈ bs, b.ok) → found.length + 7 * bs.length ≤ 100000 → ∃ t2 t3 t4 t5 t6, forGo bdF BF (bs.map Bld.d) [.d W, .own found, s2, s3, s4, s5, s6] S = some (.nx [.d W, .own (found ++ (bs.flatMap Bld.ls).map D.str), t2, t3, t4, t5, t6], S)
  | [], found, s2, s3, s4, s5, s6, _, _ => ⟨s2, s3, s4, s5, s6, by simp [forGo]⟩
  | b :: bs, found, s2, s3, s4, s5, s6, h, hz => by
    have o := h b List.mem_cons_self
    have ll := Bld.ls_len o
    rw [List.length_cons] at hz
    obtain ⟨ρ1, e1, t2, t3, t4, t5, t6, e2⟩ := bf_at (W := W) (found := found) (s2 := s2) (s3 := s3) (s4 := s4) (s5 := s5) (s6 := s6) (S := S) o (by omega)
    obtain ⟨u2, u3, u4, u5, u6, g⟩ := bf_go (W := W) (S := S) bs (found ++ b.ls.map D.str) t2 t3 t4 t5 t6 (fun x m => h x (List.mem_cons_of_mem _ m)) (by rw [List.length_append, List.length_map]; omega)
    refine ⟨u2, u3, u4, u5, u6, ?_⟩
    rw [List.map_cons, forGo, e1]
    simp only
    rw [e2]
    simp only
    rw [g, List.flatMap_cons, List.map_append, List.append_assoc]
theorem sset_at {f : EX} {ρ : J.Env} {S S1 : Store} {xs : List Str} (h : f ρ S = some (.lst (xs.map D.str), S1)) (h1 : xs.length < 4000) (h2 : (nub xs).length < 64) : lSortedSet f ρ S = some ((srt (nub xs)).map D.str, S1) := by
  unfold lSortedSet
  rw [h]; simp only; rw [strs_map]; simp only
  exact if_pos ⟨h1, h2⟩
theorem law_files_ok {rs ps prs bl : List D} {bs : List Bld} {S : Store} (h : ∀ b ∈ bs, b.ok ∧ b.inn bl) (hl : bl.length ≤ 30) (hz : bs.length ≤ 20) : f__law_files [bookD rs ps prs (bs.map Bld.d)] S = some (.tup ((srt (nub (bs.flatMap Bld.fs))).map D.str), S) := by
  obtain ⟨t2, t3, t4, t5, t6, g⟩ := bf_go (W := bookD rs ps prs (bs.map Bld.d)) (S := S) bs [] .un .un .un .un .un (fun b m => (h b m).1) (by rw [List.length_nil]; omega)
  rw [List.nil_append] at g
  have l := flat_len (f := Bld.ls) (k := 7) bs fun b m => Bld.ls_len (h b m).1
  have n : (nub (bs.flatMap Bld.ls)).length ≤ 30 := by
    have nd : ((nub (bs.flatMap Bld.ls)).map D.str).Nodup := (nub_nodup _).map D.str (fun _ _ h e => h (D.str.inj e))
    have := nd.length_le_of_subset (l₂ := bl) fun d m => by
      obtain ⟨z, mz, rfl⟩ := List.mem_map.mp m
      obtain ⟨b, mb, mx⟩ := List.mem_flatMap.mp (nub_mem.mp mz)
      exact (h b mb).2 z mx
    rw [List.length_map] at this
    omega
  have E : srt (nub (bs.flatMap Bld.fs)) = srt (nub (bs.flatMap Bld.ls)) := srt_nub_eq fun y => by
    rw [List.mem_flatMap, List.mem_flatMap]
    constructor
    · rintro ⟨b, mb, my⟩; exact ⟨b, mb, (Bld.fs_ls (h b mb).1 y).mp my⟩
    · rintro ⟨b, mb, my⟩; exact ⟨b, mb, (Bld.fs_ls (h b mb).1 y).mpr my⟩
  rw [E]
  have T1 : sSetL 1 (lDisp aN) [.d (bookD rs ps prs (bs.map Bld.d)), .un, .un, .un, .un, .un, .un] S = some (.nx [.d (bookD rs ps prs (bs.map Bld.d)), .own [], .un, .un, .un, .un, .un], S) := by
    simp only [runDef, sSeq, sNil, sRet, sIf, sSet, sSetL, sExt, sApp, sPar, sFreeze, sDrop, eC, eV, eP, e1, e2, l2, eL, aN, aC, aG, aGL, tOf, tAndJ, tOrJ, tNotJ, eAnd, eOr, eNot, eIf, eCh, tTru, gTru, eTup, lDisp, iOf, J.items?, iRg1, iRg2, cYes, bName, bTup, bCons, bNil, mN, mD, mO, setsS, eCall, gIsi, gIsi2, isT_tt, gLen, gI0, gLe_i, gGe_i, gGt_i, gLt_i, gAdd_i,  gListL, gTuple, eSl, oN, oS, List.map_cons, List.map_nil, List.map, List.replicate, List.length_cons, List.length_nil, List.nil_append, List.cons_append, List.append_nil, List.set_cons_zero, List.set_cons_succ, List.set, List.length, List.getElem?_cons_zero, List.getElem?_cons_succ, Nat.sub, Nat.reduceSub, Nat.reduceAdd, Nat.reduceLT, Nat.reduceLeDiff, List.getElem?_nil, Bool.false_eq_true, if_true, if_false, Bool.true_and, Bool.false_and, Bool.and_true, Bool.and_false, Bool.not_true, Bool.not_false, Bool.true_or, Bool.or_true, Bool.or_false, Bool.false_or, wipeE, if_pos (sz (k := 0))]
  have T2 := for_at (l := iOf (e2 gIx (eP 0) (eC (.int 3)))) (show iOf (e2 gIx (eP 0) (eC (.int 3))) [.d (bookD rs ps prs (bs.map Bld.d)), .own [], .un, .un, .un, .un, .un] S = some (bs.map Bld.d, S) from rfl) g
  have T3 : sRet (aG gTuple (aC (eL (lSortedSet (eP 1))) aN)) [.d (bookD rs ps prs (bs.map Bld.d)), .own ((bs.flatMap Bld.ls).map D.str), t2, t3, t4, t5, t6] S = some (.rt (.tup ((srt (nub (bs.flatMap Bld.ls))).map D.str)), S) := ret_at (tup_at (eL_at (sset_at rfl (by omega) (by omega))))
  exact run_at ((seq_at T1).trans ((seq_at T2).trans T3))
end K04

set_option maxHeartbeats 4000000
namespace K04
open PySem PySem.Spec PyProof.Rows L2 J
theorem if_t {c : ET} {g1 g2 : GS} {ρ : J.Env} {S S1 : Store} (h : c ρ S = some (true, S1)) : sIf c g1 g2 ρ S = g1 ρ S1 := by
  unfold sIf; rw [h]
theorem if_f {c : ET} {g1 g2 : GS} {ρ : J.Env} {S S1 : Store} (h : c ρ S = some (false, S1)) : sIf c g1 g2 ρ S = g2 ρ S1 := by
  unfold sIf; rw [h]
theorem lDisp0 (ρ : J.Env) (S : Store) : lDisp aN ρ S = some ([], S) := by
  unfold lDisp aN
  exact if_pos (sz (k := 0))
/-! ### the same -/
mutual
def nl : D → Bool
  | .lst _ => false | .frz _ => false | .obj _ => false
  | .tup xs => nls xs
  | .non => true | .bl _ => true | .int _ => true | .str _ => true
def nls : List D → Bool
  | [] => true
  | x :: r => nl x && nls r
end
theorem nls_all : ∀ xs : List D, nls xs = true ↔ ∀ x ∈ xs, nl x = true
  | [] => by simp [nls]
  | x :: r => by rw [nls, Bool.and_eq_true, nls_all r]; simp
theorem gEq_bb {b : Bool} : gEq true (.bl b) (.bl b) = some (.bl false) := by cases b <;> rfl
theorem gEq_bb' {b : Bool} : gEq false (.bl b) (.bl b) = some (.bl true) := by cases b <;> rfl
theorem gEq_ll : gEq false (.lst []) (.lst []) = some (.bl true) := rfl
theorem sm_tup {xs : List D} (h : sm (.tup xs) = true) : xs.length ≤ 5000 ∧ ∀ x ∈ xs, sm x = true := by
  rw [sm, Bool.and_eq_true, decide_eq_true_eq, sms_all] at h; exact h
theorem sm_str {z : Str} (h : sm (.str z) = true) : okS 1000 z := by
  rw [sm, Bool.and_eq_true, decide_eq_true_eq] at h
  exact ⟨fun c m => of_decide_eq_true (Array.all_eq_true'.mp h.1 c (by simpa using m)), h.2⟩
theorem gIx_tk {xs : List D} {k : Nat} (h : k < xs.length) : gIx (.tup xs) (.int (k : Int)) = some xs[k] := by
  show atI xs (k : Int) = _
  rw [atI_nat, List.getElem?_eq_getElem h]
theorem same_atom (S : Store) (k : Nat) : ∀ (d : D), sm d = true → nl d = true → isT .tuple d = false → f__law_same (k + 1) [d, d] S = some (.bl true, S)
  | .lst _, _, h, _ => by cases h
  | .frz _, _, h, _ => by cases h
  | .obj _, _, h, _ => by cases h
  | .tup _, _, _, h => by cases h
  | .non, _, _, _ => by
    rw [f__law_same]; unfold g__law_same
    simp only [runDef, sSeq, sNil, sRet, sIf, sSet, sSetL, sExt, sApp, sPar, sFreeze, sDrop, eC, eV, eP, e1, e2, l2, eL, aN, aC, aG, aGL, tOf, tAndJ, tOrJ, tNotJ, eAnd, eOr, eNot, eIf, eCh, tTru, gTru, eTup, lDisp, iOf, J.items?, iRg1, iRg2, cYes, bName, bTup, bCons, bNil, mN, mD, mO, setsS, eCall, gIsi, gIsi2, isT_tt, gLen, gI0, gLe_i, gGe_i, gGt_i, gLt_i, gAdd_i,  gListL, gTuple, eSl, oN, oS, List.map_cons, List.map_nil, List.map, List.replicate, List.length_cons, List.length_nil, List.nil_append, List.cons_append, List.append_nil, List.set_cons_zero, List.set_cons_succ, List.set, List.length, List.getElem?_cons_zero, List.getElem?_cons_succ, Nat.sub, Nat.reduceSub, Nat.reduceAdd, Nat.reduceLT, Nat.reduceLeDiff, List.getElem?_nil, Bool.false_eq_true, if_true, if_false, Bool.true_and, Bool.false_and, Bool.and_true, Bool.and_false, Bool.not_true, Bool.not_false, Bool.true_or, Bool.or_true, Bool.or_false, Bool.false_or, wipeE, gIs_nn, show isT .tuple .non = false from rfl]
  | .bl b, _, _, _ => by
    rw [f__law_same]; unfold g__law_same
    simp only [runDef, sSeq, sNil, sRet, sIf, sSet, sSetL, sExt, sApp, sPar, sFreeze, sDrop, eC, eV, eP, e1, e2, l2, eL, aN, aC, aG, aGL, tOf, tAndJ, tOrJ, tNotJ, eAnd, eOr, eNot, eIf, eCh, tTru, gTru, eTup, lDisp, iOf, J.items?, iRg1, iRg2, cYes, bName, bTup, bCons, bNil, mN, mD, mO, setsS, eCall, gIsi, gIsi2, isT_tt, gLen, gI0, gLe_i, gGe_i, gGt_i, gLt_i, gAdd_i,  gListL, gTuple, eSl, oN, oS, List.map_cons, List.map_nil, List.map, List.replicate, List.length_cons, List.length_nil, List.nil_append, List.cons_append, List.append_nil, List.set_cons_zero, List.set_cons_succ, List.set, List.length, List.getElem?_cons_zero, List.getElem?_cons_succ, Nat.sub, Nat.reduceSub, Nat.reduceAdd, Nat.reduceLT, Nat.reduceLeDiff, List.getElem?_nil, Bool.false_eq_true, if_true, if_false, Bool.true_and, Bool.false_and, Bool.and_true, Bool.and_false, Bool.not_true, Bool.not_false, Bool.true_or, Bool.or_true, Bool.or_false, Bool.false_or, wipeE, show isT .tuple (.bl b) = false from rfl, show gIs false (.bl b) .non = some (.bl false) from rfl, show isT .str (.bl b) = false from rfl, show isT .bool (.bl b) = true from rfl, show isT .int (.bl b) = true from rfl, gEq_bb, gEq_bb']
  | .int i, _, _, _ => by
    rw [f__law_same]; unfold g__law_same
    simp only [runDef, sSeq, sNil, sRet, sIf, sSet, sSetL, sExt, sApp, sPar, sFreeze, sDrop, eC, eV, eP, e1, e2, l2, eL, aN, aC, aG, aGL, tOf, tAndJ, tOrJ, tNotJ, eAnd, eOr, eNot, eIf, eCh, tTru, gTru, eTup, lDisp, iOf, J.items?, iRg1, iRg2, cYes, bName, bTup, bCons, bNil, mN, mD, mO, setsS, eCall, gIsi, gIsi2, isT_tt, gLen, gI0, gLe_i, gGe_i, gGt_i, gLt_i, gAdd_i,  gListL, gTuple, eSl, oN, oS, List.map_cons, List.map_nil, List.map, List.replicate, List.length_cons, List.length_nil, List.nil_append, List.cons_append, List.append_nil, List.set_cons_zero, List.set_cons_succ, List.set, List.length, List.getElem?_cons_zero, List.getElem?_cons_succ, Nat.sub, Nat.reduceSub, Nat.reduceAdd, Nat.reduceLT, Nat.reduceLeDiff, List.getElem?_nil, Bool.false_eq_true, if_true, if_false, Bool.true_and, Bool.false_and, Bool.and_true, Bool.and_false, Bool.not_true, Bool.not_false, Bool.true_or, Bool.or_true, Bool.or_false, Bool.false_or, wipeE, show isT .tuple (.int i) = false from rfl, show gIs false (.int i) .non = some (.bl false) from rfl, show isT .str (.int i) = false from rfl, show isT .bool (.int i) = false from rfl, show isT .int (.int i) = true from rfl, gEq_bb, gEq_i, beq_self_eq_true]
  | .str z, h, _, _ => by
    have o := sm_str h
    have Q := gEq_s (neg := false) o (by decide) o (by decide)
    simp only [decide_true, if_false, Bool.false_eq_true] at Q
    rw [f__law_same]; unfold g__law_same
    simp only [runDef, sSeq, sNil, sRet, sIf, sSet, sSetL, sExt, sApp, sPar, sFreeze, sDrop, eC, eV, eP, e1, e2, l2, eL, aN, aC, aG, aGL, tOf, tAndJ, tOrJ, tNotJ, eAnd, eOr, eNot, eIf, eCh, tTru, gTru, eTup, lDisp, iOf, J.items?, iRg1, iRg2, cYes, bName, bTup, bCons, bNil, mN, mD, mO, setsS, eCall, gIsi, gIsi2, isT_tt, gLen, gI0, gLe_i, gGe_i, gGt_i, gLt_i, gAdd_i,  gListL, gTuple, eSl, oN, oS, List.map_cons, List.map_nil, List.map, List.replicate, List.length_cons, List.length_nil, List.nil_append, List.cons_append, List.append_nil, List.set_cons_zero, List.set_cons_succ, List.set, List.length, List.getElem?_cons_zero, List.getElem?_cons_succ, Nat.sub, Nat.reduceSub, Nat.reduceAdd, Nat.reduceLT, Nat.reduceLeDiff, List.getElem?_nil, Bool.false_eq_true, if_true, if_false, Bool.true_and, Bool.false_and, Bool.and_true, Bool.and_false, Bool.not_true, Bool.not_false, Bool.true_or, Bool.or_true, Bool.or_false, Bool.false_or, wipeE, show isT .tuple (.str z) = false from rfl, show gIs false (.str z) .non = some (.bl false) from rfl, show isT .str (.str z) = true from rfl, show isT .bool (.str z) = false from rfl, show isT .int (.str z) = false from rfl, gEq_bb, Q]
theorem same_el (S : Store) (k : Nat) (xs : List D) (ih : ∀ x ∈ xs, f__law_same k [x, x] S = some (.bl true, S)) : ∀ x ∈ ranged 0 xs.length, ∃ ρ1, bName 2 x (wipeE [.d (.tup xs), .d (.tup xs), .un] [2]) = some ρ1 ∧ tNotJ (tTru (eCall (f__law_same k) (aC (e2 gIx (eP 0) (eP 2)) (aC (e2 gIx (eP 1) (eP 2)) aN)))) ρ1 S = some ((fun _ => false) x, S) ∧ eV 2 ρ1 S = some (x, S) := fun x m => by
  unfold ranged at m
  obtain ⟨j, mj, rfl⟩ := List.mem_map.mp m
  have mj := List.mem_range.mp mj
  rw [show (0 : Int) + (j : Int) = (j : Int) by omega]
  have ih := ih xs[j] (List.getElem_mem mj)
  refine ⟨_, rfl, ?_, rfl⟩
  have I := gIx_tk mj
  simp only [runDef, sSeq, sNil, sRet, sIf, sSet, sSetL, sExt, sApp, sPar, sFreeze, sDrop, eC, eV, eP, e1, e2, l2, eL, aN, aC, aG, aGL, tOf, tAndJ, tOrJ, tNotJ, eAnd, eOr, eNot, eIf, eCh, tTru, gTru, eTup, lDisp, iOf, J.items?, iRg1, iRg2, cYes, bName, bTup, bCons, bNil, mN, mD, mO, setsS, eCall, gIsi, gIsi2, isT_tt, gLen, gI0, gLe_i, gGe_i, gGt_i, gLt_i, gAdd_i,  gListL, gTuple, eSl, oN, oS, List.map_cons, List.map_nil, List.map, List.replicate, List.length_cons, List.length_nil, List.nil_append, List.cons_append, List.append_nil, List.set_cons_zero, List.set_cons_succ, List.set, List.length, List.getElem?_cons_zero, List.getElem?_cons_succ, Nat.sub, Nat.reduceSub, Nat.reduceAdd, Nat.reduceLT, Nat.reduceLeDiff, List.getElem?_nil, Bool.false_eq_true, if_true, if_false, Bool.true_and, Bool.false_and, Bool.and_true, Bool.and_false, Bool.not_true, Bool.not_false, Bool.true_or, Bool.or_true, Bool.or_false, Bool.false_or, wipeE, I, ih]
theorem same_c (S : Store) (k : Nat) (xs : List D) (hz : xs.length ≤ 5000) (ih : ∀ x ∈ xs, f__law_same k [x, x] S = some (.bl true, S)) : lComp [2] (iRg1 (aC (aG gLen (aC (eP 1) aN)) aN)) (bName 2) (tNotJ (tTru (eCall (f__law_same k) (aC (e2 gIx (eP 0) (eP 2)) (aC (e2 gIx (eP 1) (eP 2)) aN))))) (eV 2) [.d (.tup xs), .d (.tup xs), .un] S = some ([], S) := by
  have L : iRg1 (aC (aG gLen (aC (eP 1) aN)) aN) [.d (.tup xs), .d (.tup xs), .un] S = some (ranged 0 xs.length, S) := rg1_at (n := xs.length) rfl (by omega)
  have C := lComp_filter (fun _ => false) L (by rw [ranged_len]; omega) (same_el S k xs ih)
  have F : (ranged 0 xs.length).filter (fun _ => false) = [] := List.filter_eq_nil_iff.mpr fun a _ => Bool.false_ne_true
  rw [F] at C
  exact C
theorem same_e (S : Store) (f : FN) (xs : List D) (C : lComp [2] (iRg1 (aC (aG gLen (aC (eP 1) aN)) aN)) (bName 2) (tNotJ (tTru (eCall f (aC (e2 gIx (eP 0) (eP 2)) (aC (e2 gIx (eP 1) (eP 2)) aN))))) (eV 2) [.d (.tup xs), .d (.tup xs), .un] S = some ([], S)) : runDef 3 (g__law_same f) [.tup xs, .tup xs] S = some (.bl true, S) := by
  have T1 : tTru (e1 (gIsi .tuple) (eP 1)) [.d (.tup xs), .d (.tup xs), .un] S = some (true, S) := rfl
  have T2 : (tOrJ (tNotJ (tTru (e1 (gIsi .tuple) (eP 0)))) (tOf (e2 (gEq true) (aG gLen (aC (eP 0) aN)) (aG gLen (aC (eP 1) aN))))) [.d (.tup xs), .d (.tup xs), .un] S = some (false, S) := by
    simp only [runDef, sSeq, sNil, sRet, sIf, sSet, sSetL, sExt, sApp, sPar, sFreeze, sDrop, eC, eV, eP, e1, e2, l2, eL, aN, aC, aG, aGL, tOf, tAndJ, tOrJ, tNotJ, eAnd, eOr, eNot, eIf, eCh, tTru, gTru, eTup, lDisp, iOf, J.items?, iRg1, iRg2, cYes, bName, bTup, bCons, bNil, mN, mD, mO, setsS, eCall, gIsi, gIsi2, isT_tt, gLen, gI0, gLe_i, gGe_i, gGt_i, gLt_i, gAdd_i,  gListL, gTuple, eSl, oN, oS, List.map_cons, List.map_nil, List.map, List.replicate, List.length_cons, List.length_nil, List.nil_append, List.cons_append, List.append_nil, List.set_cons_zero, List.set_cons_succ, List.set, List.length, List.getElem?_cons_zero, List.getElem?_cons_succ, Nat.sub, Nat.reduceSub, Nat.reduceAdd, Nat.reduceLT, Nat.reduceLeDiff, List.getElem?_nil, Bool.false_eq_true, if_true, if_false, Bool.true_and, Bool.false_and, Bool.and_true, Bool.and_false, Bool.not_true, Bool.not_false, Bool.true_or, Bool.or_true, Bool.or_false, Bool.false_or, wipeE, gEq_i, beq_self_eq_true]
  have T3 := e2_at (g := gEq false) (eL_at C) (show eL (lDisp aN) [.d (.tup xs), .d (.tup xs), .un] S = some (.lst [], S) from eL_at (lDisp0 _ S)) gEq_ll
  exact run_at (seq_rt ((if_t T1).trans ((seq_at (if_f T2)).trans (ret_at T3))))
theorem same_tup (S : Store) (k : Nat) (xs : List D) (hz : xs.length ≤ 5000) (ih : ∀ x ∈ xs, f__law_same k [x, x] S = some (.bl true, S)) : f__law_same (k + 1) [.tup xs, .tup xs] S = some (.bl true, S) := same_e S (f__law_same k) xs (same_c S k xs hz ih)
theorem same_ok (S : Store) (k : Nat) : ∀ (d : D), sm d = true → nl d = true → dpt d ≤ k → f__law_same (k + 1) [d, d] S = some (.bl true, S) := by
  induction k with
  | zero =>
    intro d h n l
    refine same_atom S 0 d h n ?_
    cases d with
    | tup xs => rw [dpt] at l; omega
    | _ => rfl
  | succ k ih =>
    intro d h n l
    cases d with
    | tup xs =>
      have hh := sm_tup h
      have nn := (nls_all xs).mp n
      have dd : ∀ x ∈ xs, dpt x ≤ k := (dpts_le xs).mp (by rw [dpt] at l; omega)
      exact same_tup S (k + 1) xs hh.1 fun x m => ih x (hh.2 x m) (nn x m) (dd x m)
    | _ => exact same_atom S (k + 1) _ h n rfl
/-! ### in a row of names -/
def memN (x : D) (ns : List Str) : Bool := match x with | .str z => decide (z ∈ ns) | _ => false
theorem any_strs {ns : List Str} {x : D} {y : PyData} (e : toPy x = some y) : ((ns.map PyData.str).any fun z => PyData.eqv z y) = memN x ns := by
  cases x with
  | str c =>
    cases e
    unfold memN
    rw [Bool.eq_iff_iff, List.any_eq_true, decide_eq_true_eq]
    constructor
    · rintro ⟨z, mz, ez⟩
      obtain ⟨a, ma, rfl⟩ := List.mem_map.mp mz
      have : (a == c) = true := ez
      rw [← beq_iff_eq.mp this]; exact ma
    · intro mc
      exact ⟨.str c, List.mem_map.mpr ⟨c, mc, rfl⟩, show (c == c) = true from beq_self_eq_true c⟩
  | frz _ => cases e
  | obj _ => cases e
  | _ =>
    unfold memN
    rw [List.any_eq_false]
    intro z mz
    obtain ⟨a, ma, rfl⟩ := List.mem_map.mp mz
    first
    | (cases e; exact Bool.false_ne_true)
    | (rw [toPy] at e
       split at e
       · cases e; exact Bool.false_ne_true
       · cases e)
theorem gInD_any {neg : Bool} {ns : List Str} {n : Nat} {x : D} {y : PyData} (h : ∀ z ∈ ns, okS n z) (hn : n ≤ 1000) (gx : good x = true) (dx : dpt x ≤ 60) (e : toPy x = some y) : gInD neg y (ns.map PyData.str) = some (.bl (if neg then !memN x ns else memN x ns)) := by
  obtain ⟨y', e', cy, py⟩ := good_py x gx
  rw [e] at e'
  cases e'
  obtain ⟨zs, e2, c2, p2⟩ := goods_py (ns.map D.str) (str_goods (strs_is h) hn)
  have dd := str_dpts (strs_is h)
  rw [toPys_strs] at e2
  cases e2
  have s1 : SeqAt.shaped y = true := shaped_of cy (by omega)
  have s2 : SeqAt.shaped (.list (ns.map PyData.str)) = true := shaped_of c2 (by rw [PyData.depth]; omega)
  have G : gInD neg y (ns.map PyData.str) = some (.bl (if neg then !((ns.map PyData.str).any fun z => PyData.eqv z y) else (ns.map PyData.str).any fun z => PyData.eqv z y)) := if_pos ⟨s1, s2⟩
  rw [any_strs e] at G
  exact G
theorem gIn_tn {neg : Bool} {ns : List Str} {n : Nat} {x : D} (h : ∀ z ∈ ns, okS n z) (hn : n ≤ 1000) (gx : good x = true) (dx : dpt x ≤ 60) : gIn neg x (.tup (ns.map D.str)) = some (.bl (if neg then !memN x ns else memN x ns)) := by
  obtain ⟨y, e, cy, py⟩ := good_py x gx
  have G := gInD_any (neg := neg) h hn gx dx e
  have T := toPys_strs ns
  have F : gIn neg x (.tup (ns.map D.str)) = (match toPy x, toPys (ns.map D.str) with | some a, some bs => gInD neg a bs | _, _ => none) := by cases x <;> rfl
  rw [F, e, T]
  exact G
theorem gIn_ln {neg : Bool} {ns : List Str} {n : Nat} {x : D} (h : ∀ z ∈ ns, okS n z) (hn : n ≤ 1000) (gx : good x = true) (dx : dpt x ≤ 60) : gIn neg x (.lst (ns.map D.str)) = some (.bl (if neg then !memN x ns else memN x ns)) := by
  obtain ⟨y, e, cy, py⟩ := good_py x gx
  have G := gInD_any (neg := neg) h hn gx dx e
  have T := toPys_strs ns
  have F : gIn neg x (.lst (ns.map D.str)) = (match toPy x, toPys (ns.map D.str) with | some a, some bs => gInD neg a bs | _, _ => none) := by cases x <;> rfl
  rw [F, e, T]
  exact G
/-! ### a comprehension that takes some -/
theorem lcGo_fm {bd : BD} {cond : ET} {elt : EX} {ρ : J.Env} {S : Store} (p : D → Bool) (g : D → D) : ∀ xs : List D, (∀ x ∈ xs, ∃ ρ1, bd x ρ = some ρ1 ∧ cond ρ1 S = some (p x, S) ∧ (p x = true → elt ρ1 S = some (g x, S))) → lcGo bd cond elt ρ xs S = some ((xs.filter p).map g, S)
  | [], _ => rfl
  | x :: r, h => by
    obtain ⟨ρ1, h1, h2, h3⟩ := h x List.mem_cons_self
    unfold lcGo
    rw [h1]; simp only; rw [h2]
    have ih := lcGo_fm p g r fun y m => h y (List.mem_cons_of_mem _ m)
    cases q : p x
    · simp only; rw [ih, List.filter_cons_of_neg (by simp [q])]
    · simp only; rw [h3 q]; simp only; rw [ih, List.filter_cons_of_pos q]; rfl
theorem lComp_fm {vs : List Nat} {l : EL} {bd : BD} {cond : ET} {elt : EX} {ρ : J.Env} {S : Store} {xs : List D} (p : D → Bool) (g : D → D) (hl : l ρ S = some (xs, S)) (hz : xs.length ≤ 16777216) (h : ∀ x ∈ xs, ∃ ρ1, bd x (wipeE ρ vs) = some ρ1 ∧ cond ρ1 S = some (p x, S) ∧ (p x = true → elt ρ1 S = some (g x, S))) :
    lComp vs l bd cond elt ρ S = some ((xs.filter p).map g, S) := by
  unfold lComp
  rw [hl]; simp only; rw [lcGo_fm p g xs h]; simp only
  rw [if_pos (by rw [List.length_map]; have := List.length_filter_le p xs; rw [sizeLine_eq]; omega)]
/-! ### what is wanted of the parts of a book -/
def pd (q : Str × Int) : D := .tup [.str q.1, .int q.2]
theorem prow_list : ∀ ps : List D, (∀ x ∈ ps, prow x) → ∃ pl : List (Str × Int), ps = pl.map pd ∧ ∀ q ∈ pl, okS 40 q.1
  | [], _ => ⟨[], rfl, fun q m => by simp at m⟩
  | x :: r, h => by
    obtain ⟨a, i, rfl, oa⟩ := h x List.mem_cons_self
    obtain ⟨pl, rfl, ho⟩ := prow_list r fun y m => h y (List.mem_cons_of_mem _ m)
    exact ⟨(a, i) :: pl, rfl, fun q m => (List.mem_cons.mp m).elim (fun e => by rw [e]; exact oa) (ho q)⟩
structure Bk where
  rows : List SRow
  pl : List (Str × Int)
  prs : List D
  bs : List Bld
  bl : List D
def Bk.d (k : Bk) : D := bookD (k.rows.map SRow.d) (k.pl.map pd) k.prs (k.bs.map Bld.d)
def Bk.names (k : Bk) : List Str := k.rows.map (·.nm)
def Bk.folk (k : Bk) : List Str := k.pl.map (·.1)
structure Bk.ok (k : Bk) : Prop where
  r : ∀ r ∈ k.rows, r.ok (k.rows.map fun r => D.str r.nm)
  nd : k.names.Nodup
  p : ∀ q ∈ k.pl, okS 40 q.1
  g : ∀ x ∈ k.prs, tg 2 x
  b : ∀ b ∈ k.bs, b.ok ∧ b.inn k.bl
  lz : k.bl.length ≤ 30
  rz : k.rows.length ≤ 10
  pz : k.pl.length ≤ 10
  gz : k.prs.length ≤ 100
  bz : k.bs.length ≤ 20
theorem Bk.ok.names {k : Bk} (o : k.ok) : ∀ z ∈ k.names, okS 40 z := fun z m => by
  obtain ⟨r, mr, rfl⟩ := List.mem_map.mp m
  exact (o.r r mr).n
theorem Bk.ok.folk {k : Bk} (o : k.ok) : ∀ z ∈ k.folk, okS 40 z := fun z m => by
  obtain ⟨r, mr, rfl⟩ := List.mem_map.mp m
  exact o.p r mr
theorem names_rows {rows : List SRow} {S : Store} (hz : rows.length ≤ 5000) : f_names_of [.tup (rows.map SRow.d)] S = some (.tup ((rows.map (·.nm)).map D.str), S) := by
  have C := lComp_map (vs := [1]) (l := iOf (eP 0)) (bd := bName 1) (cond := cYes) (elt := e2 gIx (eP 1) (eC (.int 0))) (ρ := [.d (.tup (rows.map SRow.d)), .un]) (S := S) (xs := rows.map SRow.d) (fun x => match x with | .tup (a :: _) => a | _ => .non) rfl (by rw [List.length_map]; omega) fun x m => by
    obtain ⟨r, mr, rfl⟩ := List.mem_map.mp m
    exact ⟨_, rfl, rfl, rfl⟩
  have E : (rows.map SRow.d).map (fun x => match x with | .tup (a :: _) => a | _ => .non) = (rows.map (·.nm)).map D.str := by
    rw [List.map_map, List.map_map]; rfl
  rw [E] at C
  exact run_at (ret_at (tup_at (eL_at C)))
theorem names_folk {pl : List (Str × Int)} {S : Store} (hz : pl.length ≤ 5000) : f_names_of [.tup (pl.map pd)] S = some (.tup ((pl.map (·.1)).map D.str), S) := by
  have C := lComp_map (vs := [1]) (l := iOf (eP 0)) (bd := bName 1) (cond := cYes) (elt := e2 gIx (eP 1) (eC (.int 0))) (ρ := [.d (.tup (pl.map pd)), .un]) (S := S) (xs := pl.map pd) (fun x => match x with | .tup (a :: _) => a | _ => .non) rfl (by rw [List.length_map]; omega) fun x m => by
    obtain ⟨r, mr, rfl⟩ := List.mem_map.mp m
    exact ⟨_, rfl, rfl, rfl⟩
  have E : (pl.map pd).map (fun x => match x with | .tup (a :: _) => a | _ => .non) = (pl.map (·.1)).map D.str := by
    rw [List.map_map, List.map_map]; rfl
  rw [E] at C
  exact run_at (ret_at (tup_at (eL_at C)))
section
variable {k : Bk} {S : Store} {x : D}
theorem has_source_ok (o : k.ok) (gx : gd 10 x) : f_has_source [k.d, x] S = some (.bl (memN x k.names), S) := by
  have N := names_rows (rows := k.rows) (S := S) (by have := o.rz; omega)
  have G := gIn_tn (neg := false) (x := x) (ns := k.names) o.names (by decide) (sm_good x gx.1) (by have := gx.2; omega)
  simp only [Bool.false_eq_true, if_false] at G
  unfold f_has_source g_has_source Bk.d bookD
  unfold Bk.names at G ⊢
  simp only [runDef, sSeq, sNil, sRet, sIf, sSet, sSetL, sExt, sApp, sPar, sFreeze, sDrop, eC, eV, eP, e1, e2, l2, eL, aN, aC, aG, aGL, tOf, tAndJ, tOrJ, tNotJ, eAnd, eOr, eNot, eIf, eCh, tTru, gTru, eTup, lDisp, iOf, J.items?, iRg1, iRg2, cYes, bName, bTup, bCons, bNil, mN, mD, mO, setsS, eCall, gIsi, gIsi2, isT_tt, gLen, gI0, gLe_i, gGe_i, gGt_i, gLt_i, gAdd_i,  gListL, gTuple, eSl, oN, oS, List.map_cons, List.map_nil, List.map, List.replicate, List.length_cons, List.length_nil, List.nil_append, List.cons_append, List.append_nil, List.set_cons_zero, List.set_cons_succ, List.set, List.length, List.getElem?_cons_zero, List.getElem?_cons_succ, Nat.sub, Nat.reduceSub, Nat.reduceAdd, Nat.reduceLT, Nat.reduceLeDiff, List.getElem?_nil, Bool.false_eq_true, if_true, if_false, Bool.true_and, Bool.false_and, Bool.and_true, Bool.and_false, Bool.not_true, Bool.not_false, Bool.true_or, Bool.or_true, Bool.or_false, Bool.false_or, wipeE, gIx_4a, N, G]
theorem has_party_ok (o : k.ok) (gx : gd 10 x) : f_has_party [k.d, x] S = some (.bl (memN x k.folk), S) := by
  have N := names_folk (pl := k.pl) (S := S) (by have := o.pz; omega)
  have G := gIn_tn (neg := false) (x := x) (ns := k.folk) o.folk (by decide) (sm_good x gx.1) (by have := gx.2; omega)
  simp only [Bool.false_eq_true, if_false] at G
  unfold f_has_party g_has_party Bk.d bookD
  unfold Bk.folk at G ⊢
  simp only [runDef, sSeq, sNil, sRet, sIf, sSet, sSetL, sExt, sApp, sPar, sFreeze, sDrop, eC, eV, eP, e1, e2, l2, eL, aN, aC, aG, aGL, tOf, tAndJ, tOrJ, tNotJ, eAnd, eOr, eNot, eIf, eCh, tTru, gTru, eTup, lDisp, iOf, J.items?, iRg1, iRg2, cYes, bName, bTup, bCons, bNil, mN, mD, mO, setsS, eCall, gIsi, gIsi2, isT_tt, gLen, gI0, gLe_i, gGe_i, gGt_i, gLt_i, gAdd_i,  gListL, gTuple, eSl, oN, oS, List.map_cons, List.map_nil, List.map, List.replicate, List.length_cons, List.length_nil, List.nil_append, List.cons_append, List.append_nil, List.set_cons_zero, List.set_cons_succ, List.set, List.length, List.getElem?_cons_zero, List.getElem?_cons_succ, Nat.sub, Nat.reduceSub, Nat.reduceAdd, Nat.reduceLT, Nat.reduceLeDiff, List.getElem?_nil, Bool.false_eq_true, if_true, if_false, Bool.true_and, Bool.false_and, Bool.and_true, Bool.and_false, Bool.not_true, Bool.not_false, Bool.true_or, Bool.or_true, Bool.or_false, Bool.false_or, wipeE, gIx_4b, N, G]
def refused (w : Str) : Rs := .ex "NotUsable" [("at", .int (-1)), ("word", .str w)]
theorem gNeg_1 : gNeg (.int 1) = some (.int (-1)) := rfl
theorem need_source_ok {w : Str} (o : k.ok) (gx : gd 10 x) : f_need_source [.str w, k.d, x] S = some (if memN x k.names = true then .ok .non else refused w, S) := by
  have H := has_source_ok (S := S) o gx
  unfold f_need_source g_need_source refused
  cases h : memN x k.names <;> rw [h] at H <;> simp only [runX, sRaise, runDef, sSeq, sNil, sRet, sIf, sSet, sSetL, sExt, sApp, sPar, sFreeze, sDrop, eC, eV, eP, e1, e2, l2, eL, aN, aC, aG, aGL, tOf, tAndJ, tOrJ, tNotJ, eAnd, eOr, eNot, eIf, eCh, tTru, gTru, eTup, lDisp, iOf, J.items?, iRg1, iRg2, cYes, bName, bTup, bCons, bNil, mN, mD, mO, setsS, eCall, gIsi, gIsi2, isT_tt, gLen, gI0, gLe_i, gGe_i, gGt_i, gLt_i, gAdd_i,  gListL, gTuple, eSl, oN, oS, List.map_cons, List.map_nil, List.map, List.replicate, List.length_cons, List.length_nil, List.nil_append, List.cons_append, List.append_nil, List.set_cons_zero, List.set_cons_succ, List.set, List.length, List.getElem?_cons_zero, List.getElem?_cons_succ, Nat.sub, Nat.reduceSub, Nat.reduceAdd, Nat.reduceLT, Nat.reduceLeDiff, List.getElem?_nil, Bool.false_eq_true, if_true, if_false, Bool.true_and, Bool.false_and, Bool.and_true, Bool.and_false, Bool.not_true, Bool.not_false, Bool.true_or, Bool.or_true, Bool.or_false, Bool.false_or, wipeE, H, gNeg_1]
theorem need_party_ok {w : Str} (o : k.ok) (gx : gd 10 x) : f_need_party [.str w, k.d, x] S = some (if memN x k.folk = true then .ok .non else refused w, S) := by
  have H := has_party_ok (S := S) o gx
  unfold f_need_party g_need_party refused
  cases h : memN x k.folk <;> rw [h] at H <;> simp only [runX, sRaise, runDef, sSeq, sNil, sRet, sIf, sSet, sSetL, sExt, sApp, sPar, sFreeze, sDrop, eC, eV, eP, e1, e2, l2, eL, aN, aC, aG, aGL, tOf, tAndJ, tOrJ, tNotJ, eAnd, eOr, eNot, eIf, eCh, tTru, gTru, eTup, lDisp, iOf, J.items?, iRg1, iRg2, cYes, bName, bTup, bCons, bNil, mN, mD, mO, setsS, eCall, gIsi, gIsi2, isT_tt, gLen, gI0, gLe_i, gGe_i, gGt_i, gLt_i, gAdd_i,  gListL, gTuple, eSl, oN, oS, List.map_cons, List.map_nil, List.map, List.replicate, List.length_cons, List.length_nil, List.nil_append, List.cons_append, List.append_nil, List.set_cons_zero, List.set_cons_succ, List.set, List.length, List.getElem?_cons_zero, List.getElem?_cons_succ, Nat.sub, Nat.reduceSub, Nat.reduceAdd, Nat.reduceLT, Nat.reduceLeDiff, List.getElem?_nil, Bool.false_eq_true, if_true, if_false, Bool.true_and, Bool.false_and, Bool.and_true, Bool.and_false, Bool.not_true, Bool.not_false, Bool.true_or, Bool.or_true, Bool.or_false, Bool.false_or, wipeE, H, gNeg_1]
theorem need_name_ok {w : Str} (gx : gd 10 x) : f_need_name [.str w, x] S = some (if isName x = true then .ok .non else refused w, S) := by
  have H := v_name x (sm_good x gx.1) S
  unfold f_need_name g_need_name refused
  cases h : isName x <;> rw [h] at H <;> simp only [runX, sRaise, runDef, sSeq, sNil, sRet, sIf, sSet, sSetL, sExt, sApp, sPar, sFreeze, sDrop, eC, eV, eP, e1, e2, l2, eL, aN, aC, aG, aGL, tOf, tAndJ, tOrJ, tNotJ, eAnd, eOr, eNot, eIf, eCh, tTru, gTru, eTup, lDisp, iOf, J.items?, iRg1, iRg2, cYes, bName, bTup, bCons, bNil, mN, mD, mO, setsS, eCall, gIsi, gIsi2, isT_tt, gLen, gI0, gLe_i, gGe_i, gGt_i, gLt_i, gAdd_i,  gListL, gTuple, eSl, oN, oS, List.map_cons, List.map_nil, List.map, List.replicate, List.length_cons, List.length_nil, List.nil_append, List.cons_append, List.append_nil, List.set_cons_zero, List.set_cons_succ, List.set, List.length, List.getElem?_cons_zero, List.getElem?_cons_succ, Nat.sub, Nat.reduceSub, Nat.reduceAdd, Nat.reduceLT, Nat.reduceLeDiff, List.getElem?_nil, Bool.false_eq_true, if_true, if_false, Bool.true_and, Bool.false_and, Bool.and_true, Bool.and_false, Bool.not_true, Bool.not_false, Bool.true_or, Bool.or_true, Bool.or_false, Bool.false_or, wipeE, H, gNeg_1]
end
end K04

set_option maxHeartbeats 4000000
namespace K04
open PySem PySem.Spec PyProof.Rows L2 J
def tt : Option D → Bool | some (.bl b) => b | _ => false
def pIdx (i : Int) (z : Str) (x : D) : Bool := match x with | .tup [_, b] => (match gIx b (.int i) with | some y => tt (gEq false y (.str z)) | none => false) | _ => false
def gIdx (x : D) : D := match x with | .tup [n, _] => n | _ => .non
def pCmp (z : Str) (x : D) : Bool := match x with | .tup [_, _, s, _, _] => tt (gIn false (.str z) s) | _ => false
def gCmp (x : D) : D := match x with | .tup [a, _, _, _, _] => a | _ => .non
def idx (i : Int) (z : Str) (bs : List Bld) : List D := ((counted (bs.map Bld.d)).filter (pIdx i z)).map gIdx
def cmp (z : Str) (rows : List SRow) : List D := ((rows.map SRow.d).filter (pCmp z)).map gCmp
theorem counted_mem {bs : List Bld} {x : D} (m : x ∈ counted (bs.map Bld.d)) : ∃ (j : Nat) (b : Bld), b ∈ bs ∧ x = .tup [.int (j : Int), b.d] := by
  unfold counted at m
  rw [List.length_map, List.mem_iff_getElem] at m
  obtain ⟨i, hi, rfl⟩ := m
  rw [List.length_zipWith, List.length_range, List.length_map, Nat.min_self] at hi
  refine ⟨i, bs[i], List.getElem_mem hi, ?_⟩
  rw [List.getElem_zipWith, List.getElem_range, List.getElem_map]
theorem counted_len (bs : List Bld) : (counted (bs.map Bld.d)).length = bs.length := by unfold counted; rw [List.length_zipWith, List.length_range, List.length_map, Nat.min_self]
def ansN (t : D → Bool) (w : Str) (out : Str → D) (x : D) : Rs := match x with | .str z => if t (.str z) = true then .ok (out z) else refused w | _ => refused w
theorem ansN_no {t : D → Bool} {w : Str} {out : Str → D} {x : D} (h : ¬ t x = true) : ansN t w out x = refused w := by
  unfold ansN
  split
  · exact if_neg h
  · rfl
theorem ansN_yes {t : D → Bool} {w : Str} {out : Str → D} {z : Str} (h : t (.str z) = true) : ansN t w out (.str z) = .ok (out z) := if_pos h
theorem sm_gave : sm (.str "gave") = true := (smB_ok 0 (.str "gave") (by decide +kernel)).1
theorem sm_notU : sm (.str "NotUsable") = true := (smB_ok 0 (.str "NotUsable") (by decide +kernel)).1
/-! what was heard -/
def gave (d : D) : D := .tup [.str "gave", d]
def notU (w : Str) : D := .tup [.str "NotUsable", .str w, .int (-1)]
section
variable {k : Bk} {S S' : Store} {x : D} {z : Str} {ρ : J.Env}
theorem heard_gave {fb : ER} {d : D} (h : fb ρ S = some (.ok d, S')) : eHeard "NotUsable" "gave" "NotUsable" "word" "at" fb ρ S = some (gave d, S') := by
  unfold eHeard; rw [h]; rfl
theorem heard_ref {fb : ER} {w : Str} (h : fb ρ S = some (refused w, S')) : eHeard "NotUsable" "gave" "NotUsable" "word" "at" fb ρ S = some (notU w, S') := by
  unfold eHeard; rw [h]
  exact if_pos ⟨rfl, rfl, rfl⟩
theorem same_gave (xs : List D) (hz : xs.length ≤ 5000) (h : ∀ x ∈ xs, sm x = true ∧ nl x = true ∧ dpt x = 0) : f__law_same 12 [gave (.tup xs), gave (.tup xs)] S = some (.bl true, S) := by
  refine same_ok S 11 _ ?_ ?_ ?_
  · show (decide (2 ≤ 5000) && (sm (.str "gave") && (sm (.tup xs) && true))) = true
    have : sm (.tup xs) = true := by rw [sm, Bool.and_eq_true, decide_eq_true_eq]; exact ⟨hz, (sms_all _).mpr fun x m => (h x m).1⟩
    rw [this, sm_gave]; rfl
  · show (nl (.str "gave") && (nl (.tup xs) && true)) = true
    have : nl (.tup xs) = true := by rw [nl]; exact (nls_all _).mpr fun x m => (h x m).2.1
    rw [this]; rfl
  · show max 0 (max (dpt (.tup xs)) 0) + 1 ≤ 11
    have : dpt (.tup xs) ≤ 1 := by
      rw [dpt]
      have := (dpts_le (n := 0) xs).mpr fun x m => by rw [(h x m).2.2]; exact Nat.le_refl _
      omega
    omega
theorem same_int {i : Int} : f__law_same 12 [gave (.int i), gave (.int i)] S = some (.bl true, S) := same_ok S 11 _ (by show (decide (2 ≤ 5000) && (sm (.str "gave") && (true && true))) = true; rw [sm_gave]; rfl) rfl (by show 1 ≤ 11; decide)
theorem same_notU {w : Str} (o : okS 40 w) : f__law_same 12 [notU w, notU w] S = some (.bl true, S) := by
  refine same_ok S 11 _ ?_ rfl (by show 1 ≤ 11; decide)
  have := (gd_str (n := 0) o (by decide)).1
  show (decide (3 ≤ 5000) && (sm (.str "NotUsable") && (sm (.str w) && (true && true)))) = true
  rw [this, sm_notU]; rfl
/-! the indexes -/
theorem idx_cond {i : Int} {b : Bld} {y : Str} {j : Nat} (hy : gIx b.d (.int i) = some (.str y)) (oy : okS 40 y) (oz : okS 1000 z) : gEq false (.str y) (.str z) = some (.bl (pIdx i z (.tup [.int (j : Int), b.d]))) := by
  have G := gEq_s (neg := false) oy (by decide) oz (by decide)
  have E : pIdx i z (.tup [.int (j : Int), b.d]) = (match gIx b.d (.int i) with | some y => tt (gEq false y (.str z)) | none => false) := rfl
  rw [E, hy]
  simp only
  rw [G]; rfl
theorem idx_small (i : Int) (z : Str) (bs : List Bld) (hz : bs.length ≤ 20) : (idx i z bs).length ≤ 5000 ∧ ∀ x ∈ idx i z bs, sm x = true ∧ nl x = true ∧ dpt x = 0 := by
  unfold idx
  refine ⟨?_, fun x m => ?_⟩
  · rw [List.length_map]
    have := List.length_filter_le (pIdx i z) (counted (bs.map Bld.d))
    rw [counted_len] at this
    omega
  · obtain ⟨y, my, rfl⟩ := List.mem_map.mp m
    obtain ⟨j, b, _, rfl⟩ := counted_mem (List.mem_filter.mp my).1
    exact ⟨rfl, rfl, rfl⟩
theorem law_idx {i : Int} (hb : ∀ b ∈ k.bs, ∃ y, gIx b.d (.int i) = some (.str y) ∧ okS 40 y) (oz : okS 1000 z) (bz : k.bs.length ≤ 20) : f__law_indexes [k.d, .int i, .str z] S = some (gave (.tup (idx i z k.bs)), S) := by
  have C := lComp_fm (vs := [3, 4]) (l := iEnA (aC (e2 gIx (eP 0) (eC (.int 3))) aN)) (bd := bTup 2 (bCons (bName 3) (bCons (bName 4) bNil))) (cond := tOf (e2 (gEq false) (e2 gIx (eP 4) (eP 1)) (eP 2))) (elt := eV 3) (ρ := [.d k.d, .d (.int i), .d (.str z), .un, .un]) (S := S) (pIdx i z) gIdx (xs := counted (k.bs.map Bld.d)) rfl (by rw [counted_len]; omega) fun x m => by
    obtain ⟨j, b, mb, rfl⟩ := counted_mem m
    obtain ⟨y, hy, oy⟩ := hb b mb
    have G := idx_cond (j := j) hy oy oz
    refine ⟨[.d k.d, .d (.int i), .d (.str z), .d (.int (j : Int)), .d b.d], rfl, ?_, fun _ => rfl⟩
    generalize pIdx i z (.tup [.int (j : Int), b.d]) = c at *
    generalize b.d = bd at *
    simp only [runDef, sSeq, sNil, sRet, sIf, sSet, sSetL, sExt, sApp, sPar, sFreeze, sDrop, eC, eV, eP, e1, e2, l2, eL, aN, aC, aG, aGL, tOf, tAndJ, tOrJ, tNotJ, eAnd, eOr, eNot, eIf, eCh, tTru, gTru, eTup, lDisp, iOf, J.items?, iRg1, iRg2, cYes, bName, bTup, bCons, bNil, mN, mD, mO, setsS, eCall, gIsi, gIsi2, isT_tt, gLen, gI0, gLe_i, gGe_i, gGt_i, gLt_i, gAdd_i,  gListL, gTuple, eSl, oN, oS, List.map_cons, List.map_nil, List.map, List.replicate, List.length_cons, List.length_nil, List.nil_append, List.cons_append, List.append_nil, List.set_cons_zero, List.set_cons_succ, List.set, List.length, List.getElem?_cons_zero, List.getElem?_cons_succ, Nat.sub, Nat.reduceSub, Nat.reduceAdd, Nat.reduceLT, Nat.reduceLeDiff, List.getElem?_nil, Bool.false_eq_true, if_true, if_false, Bool.true_and, Bool.false_and, Bool.and_true, Bool.and_false, Bool.not_true, Bool.not_false, Bool.true_or, Bool.or_true, Bool.or_false, Bool.false_or, wipeE, hy, G]
  refine run_at (ret_at ?_)
  exact tup2_at rfl (tup_at (eL_at C))
theorem ix_by (b : Bld) : gIx b.d (.int 0) = some (.str b.by_) := rfl
theorem ix_last (b : Bld) : gIx b.d (.int 4) = some (.str b.last) := rfl
theorem drop_ok {f : ER} {d : D} (h : f ρ S = some (.ok d, S')) : sDropX f ρ S = some (.nx ρ, S') := by
  unfold sDropX; rw [h]
theorem drop_ref {f : ER} {w : Str} (h : f ρ S = some (refused w, S')) : sDropX f ρ S = some (.ex "NotUsable" [("at", .int (-1)), ("word", .str w)], S') := by
  unfold sDropX; rw [h]; rfl
theorem runX_rt {n : Nat} {g : GS} {ds : List D} {S1 : Store} {x : D} (h : g (ds.map Slot.d ++ List.replicate (n - ds.length) .un) S = some (.rt x, S1)) : runX n g ds S = some (.ok x, S1) := by
  unfold runX; rw [h]
theorem runX_ex {n : Nat} {g : GS} {ds : List D} {S1 : Store} {c : Str} {o : Ob} (h : g (ds.map Slot.d ++ List.replicate (n - ds.length) .un) S = some (.ex c o, S1)) : runX n g ds S = some (.ex c o, S1) := by
  unfold runX; rw [h]
theorem seq_ex {g1 g2 : GS} {S1 : Store} {c : Str} {o : Ob} (h : g1 ρ S = some (.ex c o, S1)) : sSeq g1 g2 ρ S = some (.ex c o, S1) := by
  unfold sSeq; rw [h]
theorem builds_by_ok (o : k.ok) (gx : gd 10 x) : f_builds_by [k.d, x] S = some (ansN (fun x => memN x k.folk) "party" (fun z => .tup (idx 0 z k.bs)) x, S) := by
  have N := need_party_ok (w := "party") (S := S) o gx
  have bz := o.bz
  by_cases h : memN x k.folk = true
  · rw [if_pos h] at N
    cases x with
    | str z =>
      have oz := sm_str gx.1
      have C := lComp_fm (vs := [3, 2]) (l := iEnA (aC (e2 gIx (eP 0) (eC (.int 3))) aN)) (bd := bTup 2 (bCons (bName 3) (bCons (bName 2) bNil))) (cond := tOf (e2 (gEq false) (e2 gIx (eP 2) (eC (.int 0))) (eP 1))) (elt := eV 3) (ρ := [.d k.d, .d (.str z), .un, .un]) (S := S) (pIdx 0 z) gIdx (xs := counted (k.bs.map Bld.d)) rfl (by rw [counted_len]; omega) fun x m => by
        obtain ⟨j, b, mb, rfl⟩ := counted_mem m
        have hy := ix_by b
        have G := idx_cond (j := j) hy (o.b b mb).1.y oz
        refine ⟨[.d k.d, .d (.str z), .d b.d, .d (.int (j : Int))], rfl, ?_, fun _ => rfl⟩
        generalize pIdx 0 z (.tup [.int (j : Int), b.d]) = c at *
        generalize b.d = bd at *
        simp only [runDef, sSeq, sNil, sRet, sIf, sSet, sSetL, sExt, sApp, sPar, sFreeze, sDrop, eC, eV, eP, e1, e2, l2, eL, aN, aC, aG, aGL, tOf, tAndJ, tOrJ, tNotJ, eAnd, eOr, eNot, eIf, eCh, tTru, gTru, eTup, lDisp, iOf, J.items?, iRg1, iRg2, cYes, bName, bTup, bCons, bNil, mN, mD, mO, setsS, eCall, gIsi, gIsi2, isT_tt, gLen, gI0, gLe_i, gGe_i, gGt_i, gLt_i, gAdd_i,  gListL, gTuple, eSl, oN, oS, List.map_cons, List.map_nil, List.map, List.replicate, List.length_cons, List.length_nil, List.nil_append, List.cons_append, List.append_nil, List.set_cons_zero, List.set_cons_succ, List.set, List.length, List.getElem?_cons_zero, List.getElem?_cons_succ, Nat.sub, Nat.reduceSub, Nat.reduceAdd, Nat.reduceLT, Nat.reduceLeDiff, List.getElem?_nil, Bool.false_eq_true, if_true, if_false, Bool.true_and, Bool.false_and, Bool.and_true, Bool.and_false, Bool.not_true, Bool.not_false, Bool.true_or, Bool.or_true, Bool.or_false, Bool.false_or, wipeE, hy, G]
      have D1 : eCallX f_need_party (aC (eC (.str ("party" : Str))) (aC (eV 0) (aC (eV 1) aN))) [.d k.d, .d (.str z), .un, .un] S = some (.ok .non, S) := N
      rw [ansN_yes h]
      exact runX_rt ((seq_at (drop_ok D1)).trans (ret_at (tup_at (eL_at C))))
    | _ => cases h
  · rw [if_neg h] at N
    rw [ansN_no h]
    have D1 : eCallX f_need_party (aC (eC (.str ("party" : Str))) (aC (eV 0) (aC (eV 1) aN))) [.d k.d, .d x, .un, .un] S = some (refused "party", S) := N
    exact runX_ex (seq_ex (drop_ref D1))
theorem builds_of_ok (o : k.ok) (gx : gd 10 x) : f_builds_of [k.d, x] S = some (ansN (isName) "file" (fun z => .tup (idx 4 z k.bs)) x, S) := by
  have N := need_name_ok (w := "file") (S := S) gx
  have bz := o.bz
  by_cases h : isName x = true
  · rw [if_pos h] at N
    cases x with
    | str z =>
      have oz := sm_str gx.1
      have C := lComp_fm (vs := [3, 2]) (l := iEnA (aC (e2 gIx (eP 0) (eC (.int 3))) aN)) (bd := bTup 2 (bCons (bName 3) (bCons (bName 2) bNil))) (cond := tOf (e2 (gEq false) (e2 gIx (eP 2) (eC (.int 4))) (eP 1))) (elt := eV 3) (ρ := [.d k.d, .d (.str z), .un, .un]) (S := S) (pIdx 4 z) gIdx (xs := counted (k.bs.map Bld.d)) rfl (by rw [counted_len]; omega) fun x m => by
        obtain ⟨j, b, mb, rfl⟩ := counted_mem m
        have hy := ix_last b
        have G := idx_cond (j := j) hy (o.b b mb).1.l oz
        refine ⟨[.d k.d, .d (.str z), .d b.d, .d (.int (j : Int))], rfl, ?_, fun _ => rfl⟩
        generalize pIdx 4 z (.tup [.int (j : Int), b.d]) = c at *
        generalize b.d = bd at *
        simp only [runDef, sSeq, sNil, sRet, sIf, sSet, sSetL, sExt, sApp, sPar, sFreeze, sDrop, eC, eV, eP, e1, e2, l2, eL, aN, aC, aG, aGL, tOf, tAndJ, tOrJ, tNotJ, eAnd, eOr, eNot, eIf, eCh, tTru, gTru, eTup, lDisp, iOf, J.items?, iRg1, iRg2, cYes, bName, bTup, bCons, bNil, mN, mD, mO, setsS, eCall, gIsi, gIsi2, isT_tt, gLen, gI0, gLe_i, gGe_i, gGt_i, gLt_i, gAdd_i,  gListL, gTuple, eSl, oN, oS, List.map_cons, List.map_nil, List.map, List.replicate, List.length_cons, List.length_nil, List.nil_append, List.cons_append, List.append_nil, List.set_cons_zero, List.set_cons_succ, List.set, List.length, List.getElem?_cons_zero, List.getElem?_cons_succ, Nat.sub, Nat.reduceSub, Nat.reduceAdd, Nat.reduceLT, Nat.reduceLeDiff, List.getElem?_nil, Bool.false_eq_true, if_true, if_false, Bool.true_and, Bool.false_and, Bool.and_true, Bool.and_false, Bool.not_true, Bool.not_false, Bool.true_or, Bool.or_true, Bool.or_false, Bool.false_or, wipeE, hy, G]
      have D1 : eCallX f_need_name (aC (eC (.str ("file" : Str))) (aC (eV 1) aN)) [.d k.d, .d (.str z), .un, .un] S = some (.ok .non, S) := N
      rw [ansN_yes h]
      exact runX_rt ((seq_at (drop_ok D1)).trans (ret_at (tup_at (eL_at C))))
    | _ => cases h
  · rw [if_neg h] at N
    rw [ansN_no h]
    have D1 : eCallX f_need_name (aC (eC (.str ("file" : Str))) (aC (eV 1) aN)) [.d k.d, .d x, .un, .un] S = some (refused "file", S) := N
    exact runX_ex (seq_ex (drop_ref D1))
theorem cmp_cond {r : SRow} {N : List D} (o : r.ok N) (oz : okS 1000 z) : gIn false (.str z) (.tup (r.sp.map D.str)) = some (.bl (pCmp z r.d)) := by
  have G := gIn_tn (neg := false) (x := .str z) (ns := r.sp) o.s (by decide) (oz.good (by decide)) (Nat.zero_le _)
  have E : pCmp z r.d = tt (gIn false (.str z) (.tup (r.sp.map D.str))) := rfl
  rw [E, G]; rfl
theorem cmp_small {z : Str} (o : k.ok) : (cmp z k.rows).length ≤ 5000 ∧ ∀ x ∈ cmp z k.rows, sm x = true ∧ nl x = true ∧ dpt x = 0 := by
  unfold cmp
  have := o.rz
  refine ⟨?_, fun x m => ?_⟩
  · rw [List.length_map]
    have := List.length_filter_le (pCmp z) (k.rows.map SRow.d)
    rw [List.length_map] at this
    omega
  · obtain ⟨y, my, rfl⟩ := List.mem_map.mp m
    obtain ⟨r, mr, rfl⟩ := List.mem_map.mp (List.mem_filter.mp my).1
    exact ⟨(gd_str (n := 0) (o.r r mr).n (by decide)).1, rfl, rfl⟩
theorem compiling_ok (o : k.ok) (gx : gd 10 x) : f_compiling [k.d, x] S = some (ansN (isName) "language" (fun z => .tup (cmp z k.rows)) x, S) := by
  have N := need_name_ok (w := "language") (S := S) gx
  have rz := o.rz
  by_cases h : isName x = true
  · rw [if_pos h] at N
    cases x with
    | str z =>
      have oz := sm_str gx.1
      have C := lComp_fm (vs := [2]) (l := iOf (e2 gIx (eP 0) (eC (.int 0)))) (bd := bName 2) (cond := tOf (e2 (gIn false) (eP 1) (e2 gIx (eP 2) (eC (.int 2))))) (elt := e2 gIx (eP 2) (eC (.int 0))) (ρ := [.d k.d, .d (.str z), .un]) (S := S) (pCmp z) gCmp (xs := k.rows.map SRow.d) rfl (by rw [List.length_map]; omega) fun x m => by
        obtain ⟨r, mr, rfl⟩ := List.mem_map.mp m
        have G := cmp_cond (o.r r mr) oz
        have hy : gIx r.d (.int 2) = some (.tup (r.sp.map D.str)) := rfl
        refine ⟨[.d k.d, .d (.str z), .d r.d], rfl, ?_, fun _ => rfl⟩
        generalize pCmp z r.d = c at *
        generalize r.d = bd at *
        simp only [runDef, sSeq, sNil, sRet, sIf, sSet, sSetL, sExt, sApp, sPar, sFreeze, sDrop, eC, eV, eP, e1, e2, l2, eL, aN, aC, aG, aGL, tOf, tAndJ, tOrJ, tNotJ, eAnd, eOr, eNot, eIf, eCh, tTru, gTru, eTup, lDisp, iOf, J.items?, iRg1, iRg2, cYes, bName, bTup, bCons, bNil, mN, mD, mO, setsS, eCall, gIsi, gIsi2, isT_tt, gLen, gI0, gLe_i, gGe_i, gGt_i, gLt_i, gAdd_i,  gListL, gTuple, eSl, oN, oS, List.map_cons, List.map_nil, List.map, List.replicate, List.length_cons, List.length_nil, List.nil_append, List.cons_append, List.append_nil, List.set_cons_zero, List.set_cons_succ, List.set, List.length, List.getElem?_cons_zero, List.getElem?_cons_succ, Nat.sub, Nat.reduceSub, Nat.reduceAdd, Nat.reduceLT, Nat.reduceLeDiff, List.getElem?_nil, Bool.false_eq_true, if_true, if_false, Bool.true_and, Bool.false_and, Bool.and_true, Bool.and_false, Bool.not_true, Bool.not_false, Bool.true_or, Bool.or_true, Bool.or_false, Bool.false_or, wipeE, hy, G]
      have D1 : eCallX f_need_name (aC (eC (.str ("language" : Str))) (aC (eV 1) aN)) [.d k.d, .d (.str z), .un] S = some (.ok .non, S) := N
      rw [ansN_yes h]
      exact runX_rt ((seq_at (drop_ok D1)).trans (ret_at (tup_at (eL_at C))))
    | _ => cases h
  · rw [if_neg h] at N
    rw [ansN_no h]
    have D1 : eCallX f_need_name (aC (eC (.str ("language" : Str))) (aC (eV 1) aN)) [.d k.d, .d x, .un] S = some (refused "language", S) := N
    exact runX_ex (seq_ex (drop_ref D1))
/-! names, right -/
theorem callX2_at {G : FNX} {f g : EX} {S1 S2 : Store} {x y : D} (h : f ρ S = some (x, S1)) (h2 : g ρ S1 = some (y, S2)) : eCallX G (aC f (aC g aN)) ρ S = G [x, y] S2 := by
  simp only [eCallX, aC, aN, h, h2]
theorem same_test {f g : EX} {S1 S2 S3 : Store} {x : D} (h : f ρ S = some (x, S1)) (h2 : g ρ S1 = some (x, S2)) (h3 : f__law_same 12 [x, x] S2 = some (.bl true, S3)) : tNotJ (tTru (eCall (f__law_same 12) (aC f (aC g aN)))) ρ S = some (false, S3) := by
  unfold tNotJ tTru
  rw [call2_at h h2, h3]
  rfl
theorem tup3_at {f g h : EX} {S1 S2 S3 : Store} {x y w : D} (h1 : f ρ S = some (x, S1)) (h2 : g ρ S1 = some (y, S2)) (h3 : h ρ S2 = some (w, S3)) : eTup (aC f (aC g (aC h aN))) ρ S = some (.tup [x, y, w], S3) := by
  simp only [eTup, aC, aN, h1, h2, h3]
  exact if_pos (sz (k := 3))
theorem neg1_at : e1 gNeg (eC (.int 1)) ρ S = some (.int (-1), S) := rfl
theorem okw {w : Str} (h : smB 0 (.str w) = true) : w.length ≤ 40 → okS 40 w := fun l => by
  have := sm_str (smB_ok 0 (.str w) h).1
  exact ⟨this.1, l⟩
theorem name_right_ok (o : k.ok) (gx : gd 10 x) : f__law_name_right [k.d, x] S = some (.bl true, S) := by
  have bz := o.bz
  have L := vl_name x (sm_good x gx.1) S
  have F1 := builds_of_ok (S := S) o gx
  have F2 := compiling_ok (S := S) o gx
  by_cases h : isName x = true
  · rw [h] at L
    cases x with
    | str z =>
      have oz := sm_str gx.1
      rw [ansN_yes h] at F1 F2
      have I := law_idx (k := k) (S := S) (i := 4) (fun b m => ⟨_, ix_last b, (o.b b m).1.l⟩) oz bz
      have C := lComp_fm (vs := [3]) (l := iOf (e2 gIx (eP 0) (eC (.int 0)))) (bd := bName 3) (cond := tOf (e2 (gIn false) (eP 1) (e2 gIx (eP 3) (eC (.int 2))))) (elt := e2 gIx (eP 3) (eC (.int 0))) (ρ := [.d k.d, .d (.str z), .d (notU "language"), .un]) (S := S) (pCmp z) gCmp (xs := k.rows.map SRow.d) rfl (by have := o.rz; rw [List.length_map]; omega) fun x m => by
        obtain ⟨r, mr, rfl⟩ := List.mem_map.mp m
        have G := cmp_cond (o.r r mr) oz
        have hy : gIx r.d (.int 2) = some (.tup (r.sp.map D.str)) := rfl
        refine ⟨[.d k.d, .d (.str z), .d (notU "language"), .d r.d], rfl, ?_, fun _ => rfl⟩
        generalize pCmp z r.d = c at *
        generalize r.d = bd at *
        simp only [runDef, sSeq, sNil, sRet, sIf, sSet, sSetL, sExt, sApp, sPar, sFreeze, sDrop, eC, eV, eP, e1, e2, l2, eL, aN, aC, aG, aGL, tOf, tAndJ, tOrJ, tNotJ, eAnd, eOr, eNot, eIf, eCh, tTru, gTru, eTup, lDisp, iOf, J.items?, iRg1, iRg2, cYes, bName, bTup, bCons, bNil, mN, mD, mO, setsS, eCall, gIsi, gIsi2, isT_tt, gLen, gI0, gLe_i, gGe_i, gGt_i, gLt_i, gAdd_i,  gListL, gTuple, eSl, oN, oS, List.map_cons, List.map_nil, List.map, List.replicate, List.length_cons, List.length_nil, List.nil_append, List.cons_append, List.append_nil, List.set_cons_zero, List.set_cons_succ, List.set, List.length, List.getElem?_cons_zero, List.getElem?_cons_succ, Nat.sub, Nat.reduceSub, Nat.reduceAdd, Nat.reduceLT, Nat.reduceLeDiff, List.getElem?_nil, Bool.false_eq_true, if_true, if_false, Bool.true_and, Bool.false_and, Bool.and_true, Bool.and_false, Bool.not_true, Bool.not_false, Bool.true_or, Bool.or_true, Bool.or_false, Bool.false_or, wipeE, hy, G]
      have T1 := set_at (i := 2) (ρ := [.d k.d, .d (.str z), .un, .un]) (tup3_at (S := S) (show eC (.str "NotUsable") [.d k.d, .d (.str z), .un, .un] S = some (.str "NotUsable", S) from rfl) (show eC (.str "file") [.d k.d, .d (.str z), .un, .un] S = some (.str "file", S) from rfl) neg1_at)
      have A1 : tTru (eCall f__law_is_name (aC (eV 1) aN)) [.d k.d, .d (.str z), .d (notU "file"), .un] S = some (true, S) := by
        unfold tTru
        rw [call1_at (show eV 1 [.d k.d, .d (.str z), .d (notU "file"), .un] S = some (.str z, S) from rfl), L]; rfl
      have T2 : sSet (eCall f__law_indexes (aC (eV 0) (aC (eC (.int 4)) (aC (eV 1) aN)))) (bName 2) [.d k.d, .d (.str z), .d (notU "file"), .un] S = some (.nx [.d k.d, .d (.str z), .d (gave (.tup (idx 4 z k.bs))), .un], S) := set_at (i := 2) (show eCall f__law_indexes (aC (eV 0) (aC (eC (.int 4)) (aC (eV 1) aN))) [.d k.d, .d (.str z), .d (notU "file"), .un] S = _ from I)
      have H1 := heard_gave (ρ := [.d k.d, .d (.str z), .d (gave (.tup (idx 4 z k.bs))), .un]) ((callX2_at (G := f_builds_of) (f := eV 0) (g := eV 1) (S := S) rfl rfl).trans F1)
      have ix := idx_small 4 z k.bs bz
      have Q1 := same_test H1 (show eV 2 [.d k.d, .d (.str z), .d (gave (.tup (idx 4 z k.bs))), .un] S = some (gave (.tup (idx 4 z k.bs)), S) from rfl) (same_gave _ ix.1 ix.2)
      have T4 := set_at (i := 2) (ρ := [.d k.d, .d (.str z), .d (gave (.tup (idx 4 z k.bs))), .un]) (tup3_at (S := S) (show eC (.str "NotUsable") [.d k.d, .d (.str z), .d (gave (.tup (idx 4 z k.bs))), .un] S = some (.str "NotUsable", S) from rfl) (show eC (.str "language") [.d k.d, .d (.str z), .d (gave (.tup (idx 4 z k.bs))), .un] S = some (.str "language", S) from rfl) neg1_at)
      have A2 : tTru (eCall f__law_is_name (aC (eV 1) aN)) [.d k.d, .d (.str z), .d (notU "language"), .un] S = some (true, S) := by
        unfold tTru
        rw [call1_at (show eV 1 [.d k.d, .d (.str z), .d (notU "language"), .un] S = some (.str z, S) from rfl), L]; rfl
      have T5 := set_at (i := 2) (tup2_at (show eC (.str ("gave" : Str)) [.d k.d, .d (.str z), .d (notU "language"), .un] S = some (.str "gave", S) from rfl) (tup_at (eL_at C)))
      have H2 := heard_gave (ρ := [.d k.d, .d (.str z), .d (gave (.tup (cmp z k.rows))), .un]) ((callX2_at (G := f_compiling) (f := eV 0) (g := eV 1) (S := S) rfl rfl).trans F2)
      have cx := cmp_small (z := z) o
      have E := (call2_at (G := f__law_same 12) H2 (show eV 2 [.d k.d, .d (.str z), .d (gave (.tup (cmp z k.rows))), .un] S = some (gave (.tup (cmp z k.rows)), S) from rfl)).trans (same_gave _ cx.1 cx.2)
      exact run_at ((seq_at T1).trans ((seq_at ((if_t A1).trans T2)).trans ((seq_at (if_f Q1)).trans ((seq_at T4).trans ((seq_at ((if_t A2).trans T5)).trans (ret_at E))))))
    | _ => cases h
  · have hf : isName x = false := by simpa using h
    rw [hf] at L
    have R1 : f_builds_of [k.d, x] S = some (refused "file", S) := by rw [F1, ansN_no h]
    have R2 : f_compiling [k.d, x] S = some (refused "language", S) := by rw [F2, ansN_no h]
    have T1 := set_at (i := 2) (ρ := [.d k.d, .d x, .un, .un]) (tup3_at (S := S) (show eC (.str "NotUsable") [.d k.d, .d x, .un, .un] S = some (.str "NotUsable", S) from rfl) (show eC (.str "file") [.d k.d, .d x, .un, .un] S = some (.str "file", S) from rfl) neg1_at)
    have A1 : tTru (eCall f__law_is_name (aC (eV 1) aN)) [.d k.d, .d x, .d (notU "file"), .un] S = some (false, S) := by
      unfold tTru
      rw [call1_at (show eV 1 [.d k.d, .d x, .d (notU "file"), .un] S = some (x, S) from rfl), L]; rfl
    have H1 := heard_ref (ρ := [.d k.d, .d x, .d (notU "file"), .un]) ((callX2_at (G := f_builds_of) (f := eV 0) (g := eV 1) (S := S) rfl rfl).trans R1)
    have Q1 := same_test H1 (show eV 2 [.d k.d, .d x, .d (notU "file"), .un] S = some (notU "file", S) from rfl) (same_notU (okw (by decide +kernel) (by decide)))
    have T4 := set_at (i := 2) (ρ := [.d k.d, .d x, .d (notU "file"), .un]) (tup3_at (S := S) (show eC (.str "NotUsable") [.d k.d, .d x, .d (notU "file"), .un] S = some (.str "NotUsable", S) from rfl) (show eC (.str "language") [.d k.d, .d x, .d (notU "file"), .un] S = some (.str "language", S) from rfl) neg1_at)
    have A2 : tTru (eCall f__law_is_name (aC (eV 1) aN)) [.d k.d, .d x, .d (notU "language"), .un] S = some (false, S) := by
      unfold tTru
      rw [call1_at (show eV 1 [.d k.d, .d x, .d (notU "language"), .un] S = some (x, S) from rfl), L]; rfl
    have H2 := heard_ref (ρ := [.d k.d, .d x, .d (notU "language"), .un]) ((callX2_at (G := f_compiling) (f := eV 0) (g := eV 1) (S := S) rfl rfl).trans R2)
    have E := (call2_at (G := f__law_same 12) H2 (show eV 2 [.d k.d, .d x, .d (notU "language"), .un] S = some (notU "language", S) from rfl)).trans (same_notU (okw (by decide +kernel) (by decide)))
    exact run_at ((seq_at T1).trans ((seq_at (if_f A1)).trans ((seq_at (if_f Q1)).trans ((seq_at T4).trans ((seq_at (if_f A2)).trans (ret_at E))))))
end
end K04

set_option maxHeartbeats 4000000
namespace K04
open PySem PySem.Spec PyProof.Rows L2 J
theorem aG1_at {g : List D → Option D} {f : EX} {ρ : J.Env} {S S1 : Store} {x z : D} (h : f ρ S = some (x, S1)) (k : g [x] = some z) : aG g (aC f aN) ρ S = some (z, S1) := by
  simp only [aG, aC, aN, h, k]
theorem tOf_at {f : EX} {ρ : J.Env} {S S1 : Store} {b : Bool} (h : f ρ S = some (.bl b, S1)) : tOf f ρ S = some (b, S1) := by
  simp only [tOf, h]
theorem runX_nx {n : Nat} {g : GS} {ds : List D} {S S1 : Store} {ρ : J.Env} (h : g (ds.map Slot.d ++ List.replicate (n - ds.length) .un) S = some (.nx ρ, S1)) : runX n g ds S = some (.ok .non, S1) := by
  unfold runX; rw [h]
theorem gd.mono {n m : Nat} {d : D} (h : gd n d) (l : n ≤ m) : gd m d := ⟨h.1, Nat.le_trans h.2 l⟩
theorem gd_el {n : Nat} {xs : List D} (h : gd n (.tup xs)) : ∀ x ∈ xs, gd n x := fun x m => by
  have a := sm_tup h.1
  have b := h.2
  rw [dpt] at b
  have c := (dpts_le (n := n - 1) xs).mp (by omega) x m
  exact ⟨a.2 x m, by omega⟩
theorem names_strs : ∀ xs : List D, (∀ x ∈ xs, sm x = true) → (xs.all isName = true) → ∃ zs : List Str, xs = zs.map D.str ∧ ∀ z ∈ zs, okS 1000 z
  | [], _, _ => ⟨[], rfl, fun z m => by simp at m⟩
  | x :: r, h, n => by
    rw [List.all_cons, Bool.and_eq_true] at n
    obtain ⟨z, rfl⟩ := name_str n.1
    obtain ⟨zs, rfl, o⟩ := names_strs r (fun y m => h y (List.mem_cons_of_mem _ m)) n.2
    exact ⟨z :: zs, rfl, fun y m => (List.mem_cons.mp m).elim (fun e => by rw [e]; exact sm_str (h _ List.mem_cons_self)) (o y)⟩
def okP (k : Bk) (x : D) : Bool := isSet x && (match x with | .tup xs => xs.all fun y => memN y k.folk | _ => false)
def pW (x y : D) : Bool := match y with | .tup [n, _] => tt (gIn false n x) | _ => false
def gW (y : D) : D := match y with | .tup [_, w] => w | _ => .non
def wl (k : Bk) (x : D) : List D := ((k.pl.map pd).filter (pW x)).map gW
def wsum (k : Bk) (x : D) : D := match gSum [.lst (wl k x)] with | some d => d | none => .non
theorem ints_some : ∀ l : List D, (∀ y ∈ l, ∃ i, y = D.int i) → ∃ ns, ints? l = some ns
  | [], _ => ⟨[], rfl⟩
  | x :: r, h => by
    obtain ⟨i, rfl⟩ := h x List.mem_cons_self
    obtain ⟨ns, e⟩ := ints_some r fun y m => h y (List.mem_cons_of_mem _ m)
    exact ⟨i :: ns, by rw [ints?, e]; rfl⟩
theorem wsum_ok (k : Bk) (x : D) : gSum [.lst (wl k x)] = some (wsum k x) ∧ ∃ i, wsum k x = .int i := by
  obtain ⟨ns, e⟩ := ints_some (wl k x) fun y m => by
    unfold wl at m
    obtain ⟨w, mw, rfl⟩ := List.mem_map.mp m
    obtain ⟨q, _, rfl⟩ := List.mem_map.mp (List.mem_filter.mp mw).1
    exact ⟨q.2, rfl⟩
  have g : gSum [.lst (wl k x)] = some (.int ns.sum) := by
    show (match ints? (wl k x) with | some ns => some (D.int ns.sum) | none => none) = _
    rw [e]
  unfold wsum
  rw [g]
  exact ⟨rfl, _, rfl⟩
section
variable {k : Bk} {S S' : Store} {x : D} {B : Int}
theorem okP_tup (gx : gd 10 x) (h : isSet x = true) : ∃ zs : List Str, x = .tup (zs.map D.str) ∧ (∀ z ∈ zs, okS 1000 z) ∧ zs.length ≤ 5000 := by
  cases x with
  | tup xs =>
    have h' : (xs.all isName && ris xs) = true := h
    rw [Bool.and_eq_true] at h'
    have s := sm_tup gx.1
    obtain ⟨zs, rfl, o⟩ := names_strs xs s.2 h'.1
    exact ⟨zs, rfl, o, by rw [List.length_map] at s; exact s.1⟩
  | _ => cases h
theorem has_all (o : k.ok) {zs : List Str} (oz : ∀ z ∈ zs, okS 1000 z) (lz : zs.length ≤ 5000) : aG gAll (aC (eL (lComp [2] (iOf (eP 1)) (bName 2) cYes (eCall f_has_party (aC (eV 0) (aC (eV 2) aN))))) aN) [.d k.d, .d (.tup (zs.map D.str)), .un] S = some (.bl ((zs.map D.str).all fun y => memN y k.folk), S) := by
  have C := lComp_map (vs := [2]) (l := iOf (eP 1)) (bd := bName 2) (cond := cYes) (elt := eCall f_has_party (aC (eV 0) (aC (eV 2) aN))) (ρ := [.d k.d, .d (.tup (zs.map D.str)), .un]) (S := S) (xs := zs.map D.str) (fun y => .bl (memN y k.folk)) rfl (by rw [List.length_map]; omega) fun y m => by
    obtain ⟨z, mz, rfl⟩ := List.mem_map.mp m
    exact ⟨_, rfl, rfl, has_party_ok (S := S) o (gd_str (n := 10) (oz z mz) (by decide))⟩
  have G := gAll_map (fun y => memN y k.folk) (zs.map D.str)
  exact aG1_at (eL_at C) G
theorem isp_rt {n : Nat} {g : GS} {ds : List D} {S S1 : Store} {x : D} (h : g (ds.map Slot.d ++ List.replicate (n - ds.length) .un) S = some (.rt x, S1)) : runDef n g ds S = some (x, S1) := by
  unfold runDef; rw [h]
theorem is_parties_ok (o : k.ok) (gx : gd 10 x) : f_is_parties [k.d, x] S = some (.bl (okP k x), S) := by
  have V := v_set x (sm_good x gx.1) S
  have A1 : eCall f_is_set (aC (eV 1) aN) [.d k.d, .d x, .un] S = some (.bl (isSet x), S) := by
    rw [call1_at (show eV 1 [.d k.d, .d x, .un] S = some (x, S) from rfl)]; exact V
  have Z : eAnd (eCall f_is_set (aC (eV 1) aN)) (aG gAll (aC (eL (lComp [2] (iOf (eP 1)) (bName 2) cYes (eCall f_has_party (aC (eV 0) (aC (eV 2) aN))))) aN)) [.d k.d, .d x, .un] S = some (.bl (okP k x), S) := by
    unfold eAnd
    rw [A1]
    by_cases h : isSet x = true
    · obtain ⟨zs, rfl, oz, lz⟩ := okP_tup gx h
      have E : okP k (.tup (zs.map D.str)) = (zs.map D.str).all fun y => memN y k.folk := by unfold okP; rw [h]; rfl
      rw [E, h]
      exact has_all (S := S) o oz lz
    · have h' : isSet x = false := by simpa using h
      have E : okP k x = false := by unfold okP; rw [h']; rfl
      rw [E, h']
  exact isp_rt (g := g_is_parties) (show g_is_parties [.d k.d, .d x, .un] S = _ from ret_at Z)
theorem need_parties_ok {w : Str} (o : k.ok) (gx : gd 10 x) : f_need_parties [.str w, k.d, x] S = some (if okP k x = true then .ok .non else refused w, S) := by
  have A1 : tNotJ (tTru (eCall f_is_parties (aC (eV 1) (aC (eV 2) aN)))) [.d (.str w), .d k.d, .d x] S = some (!okP k x, S) := by
    unfold tNotJ tTru
    rw [call2_at (show eV 1 [.d (.str w), .d k.d, .d x] S = some (k.d, S) from rfl) (show eV 2 [.d (.str w), .d k.d, .d x] S = some (x, S) from rfl), is_parties_ok o gx]; rfl
  have R : sRaise ("NotUsable" : Str) ("word" : Str) ("at" : Str) (aC (eV 0) (aC (e1 gNeg (eC (.int 1))) aN)) [.d (.str w), .d k.d, .d x] S = some (.ex "NotUsable" [("at", .int (-1)), ("word", .str w)], S) := rfl
  cases h : okP k x with
  | true =>
    rw [h] at A1
    exact runX_nx ((if_f (g1 := sRaise ("NotUsable" : Str) ("word" : Str) ("at" : Str) (aC (eV 0) (aC (e1 gNeg (eC (.int 1))) aN))) (g2 := sNil) A1).trans (show sNil _ S = _ from rfl))
  | false =>
    rw [h] at A1
    exact runX_ex ((if_t A1).trans R)
theorem pW_cond {zs : List Str} (oz : ∀ z ∈ zs, okS 1000 z) {q : Str × Int} (oq : okS 40 q.1) : gIn false (.str q.1) (.tup (zs.map D.str)) = some (.bl (pW (.tup (zs.map D.str)) (pd q))) := by
  have G := gIn_tn (neg := false) (x := .str q.1) (ns := zs) oz (by decide) (oq.good (by decide)) (Nat.zero_le _)
  have E : pW (.tup (zs.map D.str)) (pd q) = tt (gIn false (.str q.1) (.tup (zs.map D.str))) := rfl
  rw [E, G]; rfl
theorem weight_of_ok (o : k.ok) (gx : gd 10 x) : f_weight_of [k.d, x] S = some (if okP k x = true then .ok (wsum k x) else refused "parties", S) := by
  have N := need_parties_ok (w := "parties") (S := S) o gx
  have pz := o.pz
  by_cases h : okP k x = true
  · rw [if_pos h] at N ⊢
    have hs : isSet x = true := by unfold okP at h; rw [Bool.and_eq_true] at h; exact h.1
    obtain ⟨zs, rfl, oz, lz⟩ := okP_tup gx hs
    have C := lComp_fm (vs := [2, 3]) (l := iOf (e2 gIx (eP 0) (eC (.int 1)))) (bd := bTup 2 (bCons (bName 2) (bCons (bName 3) bNil))) (cond := tOf (e2 (gIn false) (eP 2) (eP 1))) (elt := eV 3) (ρ := [.d k.d, .d (.tup (zs.map D.str)), .un, .un]) (S := S) (pW (.tup (zs.map D.str))) gW (xs := k.pl.map pd) rfl (by rw [List.length_map]; omega) fun x m => by
      obtain ⟨q, mq, rfl⟩ := List.mem_map.mp m
      have G := pW_cond oz (o.p q mq)
      refine ⟨[.d k.d, .d (.tup (zs.map D.str)), .d (.str q.1), .d (.int q.2)], rfl, ?_, fun _ => rfl⟩
      generalize pW (.tup (zs.map D.str)) (pd q) = c at *
      generalize D.tup (zs.map D.str) = t at *
      simp only [runDef, sSeq, sNil, sRet, sIf, sSet, sSetL, sExt, sApp, sPar, sFreeze, sDrop, eC, eV, eP, e1, e2, l2, eL, aN, aC, aG, aGL, tOf, tAndJ, tOrJ, tNotJ, eAnd, eOr, eNot, eIf, eCh, tTru, gTru, eTup, lDisp, iOf, J.items?, iRg1, iRg2, cYes, bName, bTup, bCons, bNil, mN, mD, mO, setsS, eCall, gIsi, gIsi2, isT_tt, gLen, gI0, gLe_i, gGe_i, gGt_i, gLt_i, gAdd_i,  gListL, gTuple, eSl, oN, oS, List.map_cons, List.map_nil, List.map, List.replicate, List.length_cons, List.length_nil, List.nil_append, List.cons_append, List.append_nil, List.set_cons_zero, List.set_cons_succ, List.set, List.length, List.getElem?_cons_zero, List.getElem?_cons_succ, Nat.sub, Nat.reduceSub, Nat.reduceAdd, Nat.reduceLT, Nat.reduceLeDiff, List.getElem?_nil, Bool.false_eq_true, if_true, if_false, Bool.true_and, Bool.false_and, Bool.and_true, Bool.and_false, Bool.not_true, Bool.not_false, Bool.true_or, Bool.or_true, Bool.or_false, Bool.false_or, wipeE, G]
    have D1 : eCallX f_need_parties (aC (eC (.str ("parties" : Str))) (aC (eV 0) (aC (eV 1) aN))) [.d k.d, .d (.tup (zs.map D.str)), .un, .un] S = some (.ok .non, S) := N
    have W := (wsum_ok k (.tup (zs.map D.str))).1
    have T : aG gSum (aC (eL (lComp [2, 3] (iOf (e2 gIx (eP 0) (eC (.int 1)))) (bTup 2 (bCons (bName 2) (bCons (bName 3) bNil))) (tOf (e2 (gIn false) (eP 2) (eP 1))) (eV 3))) aN) [.d k.d, .d (.tup (zs.map D.str)), .un, .un] S = some (wsum k (.tup (zs.map D.str)), S) := by
      exact aG1_at (eL_at C) W
    exact runX_rt ((seq_at (drop_ok D1)).trans (ret_at T))
  · rw [if_neg h] at N ⊢
    have D1 : eCallX f_need_parties (aC (eC (.str ("parties" : Str))) (aC (eV 0) (aC (eV 1) aN))) [.d k.d, .d x, .un, .un] S = some (refused "parties", S) := N
    exact runX_ex (seq_ex (drop_ref D1))
/-! one thing -/
def W5 : GS := (sSeq (sSet (eTup (aC (eC (.str ("NotUsable" : Str))) (aC (eC (.str ("parties" : Str))) (aC (e1 gNeg (eC (.int 1))) aN)))) (bName 7)) (sSeq (sIf (tAndJ (tTru (eCall f__law_is_set (aC (eV 6) aN))) (tOf (e2 (gEq false) (eL (lComp [9] (iOf (eP 6)) (bName 9) (tOf (e2 (gIn true) (eP 9) (eP 2))) (eV 9))) (eL (lDisp aN))))) (sSet (eTup (aC (eC (.str ("gave" : Str))) (aC (aG gSum (aC (eL (lComp [9, 10] (iOf (e2 gIx (eP 1) (eC (.int 1)))) (bTup 2 (bCons (bName 9) (bCons (bName 10) bNil))) (tOf (e2 (gIn false) (eP 9) (eP 6))) (eV 10))) aN)) aN))) (bName 7)) sNil) (sIf (tNotJ (tTru (eCall (f__law_same 12) (aC (eHeard ("NotUsable" : Str) ("gave" : Str) ("NotUsable" : Str) ("word" : Str) ("at" : Str) (eCallX f_weight_of (aC (eV 1) (aC (eV 6) aN)))) (aC (eV 7) aN))))) (sRet (eC (.bl false))) sNil)))
def wE (k : Bk) (lap s t x due e f g : Slot) : J.Env := [.d (.obj 0), .d k.d, .d (.lst (k.folk.map D.str)), lap, s, t, x, due, e, f, g]
theorem filter_nil_all {xs : List D} {p : D → Bool} : (xs.filter fun y => !p y).isEmpty = xs.all p := by
  induction xs with
  | nil => rfl
  | cons x r ih =>
    cases h : p x
    · rw [List.filter_cons_of_pos (by simp [h]), List.all_cons, h]; rfl
    · rw [List.filter_cons_of_neg (by simp [h]), List.all_cons, h, ih]; rfl
theorem w5_ok {lap s t due e f g : Slot} (o : k.ok) (gx : gd 10 x) : ∃ due', W5 (wE k lap s t (.d x) due e f g) S = some (.nx (wE k lap s t (.d x) due' e f g), S) := by
  have pz := o.pz
  have T1 : (sSet (eTup (aC (eC (.str ("NotUsable" : Str))) (aC (eC (.str ("parties" : Str))) (aC (e1 gNeg (eC (.int 1))) aN)))) (bName 7)) (wE k lap s t (.d x) due e f g) S = some (.nx (wE k lap s t (.d x) (.d (notU "parties")) e f g), S) := set_at (i := 7) (tup3_at (S1 := S) (S2 := S) rfl rfl rfl)
  have V := vl_set x (sm_good x gx.1) (by have := gx.2; omega) S
  have A1 : tTru (eCall f__law_is_set (aC (eV 6) aN)) (wE k lap s t (.d x) (.d (notU "parties")) e f g) S = some (isSet x, S) := by
    unfold tTru
    rw [call1_at (show eV 6 (wE k lap s t (.d x) (.d (notU "parties")) e f g) S = some (x, S) from rfl), V]; rfl
  have Wo := weight_of_ok (S := S) o gx
  have C2 : tAndJ (tTru (eCall f__law_is_set (aC (eV 6) aN))) (tOf (e2 (gEq false) (eL (lComp [9] (iOf (eP 6)) (bName 9) (tOf (e2 (gIn true) (eP 9) (eP 2))) (eV 9))) (eL (lDisp aN)))) (wE k lap s t (.d x) (.d (notU "parties")) e f g) S = some (okP k x, S) := by
    unfold tAndJ
    rw [A1]
    by_cases h : isSet x = true
    · obtain ⟨zs, rfl, oz, lz⟩ := okP_tup gx h
      rw [h]
      simp only
      have C := lComp_filter (vs := [9]) (l := iOf (eP 6)) (bd := bName 9) (cond := tOf (e2 (gIn true) (eP 9) (eP 2))) (elt := eV 9) (ρ := wE k lap s t (.d (.tup (zs.map D.str))) (.d (notU "parties")) e f g) (S := S) (xs := zs.map D.str) (fun y => !memN y k.folk) rfl (by rw [List.length_map]; omega) fun y m => by
        obtain ⟨z, mz, rfl⟩ := List.mem_map.mp m
        have G := gIn_ln (neg := true) (x := .str z) (ns := k.folk) o.folk (by decide) ((oz z mz).good (by decide)) (Nat.zero_le _)
        simp only [if_true] at G
        refine ⟨wE k lap s t (.d (.tup (zs.map D.str))) (.d (notU "parties")) e (.d (.str z)) g, rfl, ?_, rfl⟩
        unfold wE
        simp only [runDef, sSeq, sNil, sRet, sIf, sSet, sSetL, sExt, sApp, sPar, sFreeze, sDrop, eC, eV, eP, e1, e2, l2, eL, aN, aC, aG, aGL, tOf, tAndJ, tOrJ, tNotJ, eAnd, eOr, eNot, eIf, eCh, tTru, gTru, eTup, lDisp, iOf, J.items?, iRg1, iRg2, cYes, bName, bTup, bCons, bNil, mN, mD, mO, setsS, eCall, gIsi, gIsi2, isT_tt, gLen, gI0, gLe_i, gGe_i, gGt_i, gLt_i, gAdd_i,  gListL, gTuple, eSl, oN, oS, List.map_cons, List.map_nil, List.map, List.replicate, List.length_cons, List.length_nil, List.nil_append, List.cons_append, List.append_nil, List.set_cons_zero, List.set_cons_succ, List.set, List.length, List.getElem?_cons_zero, List.getElem?_cons_succ, Nat.sub, Nat.reduceSub, Nat.reduceAdd, Nat.reduceLT, Nat.reduceLeDiff, List.getElem?_nil, Bool.false_eq_true, if_true, if_false, Bool.true_and, Bool.false_and, Bool.and_true, Bool.and_false, Bool.not_true, Bool.not_false, Bool.true_or, Bool.or_true, Bool.or_false, Bool.false_or, wipeE, G]
      have sub : ∀ y ∈ (zs.map D.str).filter (fun y => !memN y k.folk), isStr 1000 y := fun y m => by
        obtain ⟨z, mz, rfl⟩ := List.mem_map.mp (List.mem_filter.mp m).1
        exact ⟨z, rfl, oz z mz⟩
      have Q := gEq_nil (neg := false) (str_goods sub (by decide)) (str_dpts sub)
      rw [filter_nil_all] at Q
      simp only [Bool.false_eq_true, if_false] at Q
      have E := e2_at (g := gEq false) (eL_at C) (eL_at (lDisp0 (wE k lap s t (.d (.tup (zs.map D.str))) (.d (notU "parties")) e f g) S)) Q
      rw [tOf_at E]
      unfold okP
      rw [h]; rfl
    · have hf : isSet x = false := by simpa using h
      rw [hf]
      simp only
      unfold okP
      rw [hf]; rfl
  cases q : okP k x with
  | true =>
    rw [q] at C2
    rw [if_pos q] at Wo
    have hs : isSet x = true := by unfold okP at q; rw [Bool.and_eq_true] at q; exact q.1
    obtain ⟨zs, rfl, oz, lz⟩ := okP_tup gx hs
    have C := lComp_fm (vs := [9, 10]) (l := iOf (e2 gIx (eP 1) (eC (.int 1)))) (bd := bTup 2 (bCons (bName 9) (bCons (bName 10) bNil))) (cond := tOf (e2 (gIn false) (eP 9) (eP 6))) (elt := eV 10) (ρ := wE k lap s t (.d (.tup (zs.map D.str))) (.d (notU "parties")) e f g) (S := S) (pW (.tup (zs.map D.str))) gW (xs := k.pl.map pd) rfl (by rw [List.length_map]; omega) fun x m => by
      obtain ⟨w, mw, rfl⟩ := List.mem_map.mp m
      have G := pW_cond oz (o.p w mw)
      refine ⟨wE k lap s t (.d (.tup (zs.map D.str))) (.d (notU "parties")) e (.d (.str w.1)) (.d (.int w.2)), rfl, ?_, fun _ => rfl⟩
      generalize pW (.tup (zs.map D.str)) (pd w) = c at *
      generalize D.tup (zs.map D.str) = t at *
      unfold wE
      simp only [runDef, sSeq, sNil, sRet, sIf, sSet, sSetL, sExt, sApp, sPar, sFreeze, sDrop, eC, eV, eP, e1, e2, l2, eL, aN, aC, aG, aGL, tOf, tAndJ, tOrJ, tNotJ, eAnd, eOr, eNot, eIf, eCh, tTru, gTru, eTup, lDisp, iOf, J.items?, iRg1, iRg2, cYes, bName, bTup, bCons, bNil, mN, mD, mO, setsS, eCall, gIsi, gIsi2, isT_tt, gLen, gI0, gLe_i, gGe_i, gGt_i, gLt_i, gAdd_i,  gListL, gTuple, eSl, oN, oS, List.map_cons, List.map_nil, List.map, List.replicate, List.length_cons, List.length_nil, List.nil_append, List.cons_append, List.append_nil, List.set_cons_zero, List.set_cons_succ, List.set, List.length, List.getElem?_cons_zero, List.getElem?_cons_succ, Nat.sub, Nat.reduceSub, Nat.reduceAdd, Nat.reduceLT, Nat.reduceLeDiff, List.getElem?_nil, Bool.false_eq_true, if_true, if_false, Bool.true_and, Bool.false_and, Bool.and_true, Bool.and_false, Bool.not_true, Bool.not_false, Bool.true_or, Bool.or_true, Bool.or_false, Bool.false_or, wipeE, G]
    obtain ⟨W, i, ei⟩ := wsum_ok k (.tup (zs.map D.str))
    have T : aG gSum (aC (eL (lComp [9, 10] (iOf (e2 gIx (eP 1) (eC (.int 1)))) (bTup 2 (bCons (bName 9) (bCons (bName 10) bNil))) (tOf (e2 (gIn false) (eP 9) (eP 6))) (eV 10))) aN) (wE k lap s t (.d (.tup (zs.map D.str))) (.d (notU "parties")) e f g) S = some (wsum k (.tup (zs.map D.str)), S) := by
      exact aG1_at (eL_at C) W
    have T2 := set_at (i := 7) (tup2_at (show eC (.str ("gave" : Str)) (wE k lap s t (.d (.tup (zs.map D.str))) (.d (notU "parties")) e f g) S = some (.str "gave", S) from rfl) T)
    have H1 := heard_gave (ρ := wE k lap s t (.d (.tup (zs.map D.str))) (.d (gave (wsum k (.tup (zs.map D.str))))) e f g) ((callX2_at (G := f_weight_of) (f := eV 1) (g := eV 6) (S := S) rfl rfl).trans Wo)
    have Q1 := same_test H1 (show eV 7 (wE k lap s t (.d (.tup (zs.map D.str))) (.d (gave (wsum k (.tup (zs.map D.str))))) e f g) S = some (gave (wsum k (.tup (zs.map D.str))), S) from rfl) (by rw [ei]; exact same_int)
    exact ⟨_, (seq_at T1).trans ((seq_at ((if_t C2).trans T2)).trans (if_f Q1))⟩
  | false =>
    rw [q] at C2
    rw [if_neg (by rw [q]; decide)] at Wo
    have H1 := heard_ref (ρ := wE k lap s t (.d x) (.d (notU "parties")) e f g) ((callX2_at (G := f_weight_of) (f := eV 1) (g := eV 6) (S := S) rfl rfl).trans Wo)
    have Q1 := same_test H1 (show eV 7 (wE k lap s t (.d x) (.d (notU "parties")) e f g) S = some (notU "parties", S) from rfl) (same_notU (okw (by decide +kernel) (by decide)))
    exact ⟨_, (seq_at T1).trans ((seq_at (if_f C2)).trans (if_f Q1))⟩
theorem w5_go {lap s t e f g : Slot} (o : k.ok) : ∀ (xs : List D) (y due : Slot), (∀ x ∈ xs, gd 10 x) → ∃ y' due', forGo (bName 6) W5 xs (wE k lap s t y due e f g) S = some (.nx (wE k lap s t y' due' e f g), S)
  | [], y, due, _ => ⟨y, due, rfl⟩
  | x :: xs, y, due, h => by
    obtain ⟨d1, h1⟩ := w5_ok (lap := lap) (s := s) (t := t) (due := due) (e := e) (f := f) (g := g) (S := S) o (h x List.mem_cons_self)
    obtain ⟨y', d', h2⟩ := w5_go (lap := lap) (s := s) (t := t) (e := e) (f := f) (g := g) o xs (.d x) d1 fun z m => h z (List.mem_cons_of_mem _ m)
    refine ⟨y', d', ?_⟩
    rw [forGo, show bName 6 x (wE k lap s t y due e f g) = some (wE k lap s t (.d x) due e f g) from rfl]
    simp only [h1, h2]
end
end K04

set_option maxHeartbeats 4000000
namespace K04
open PySem PySem.Spec PyProof.Rows L2 J
def W1 : GS := (sSet (aG gTuple (aC (eL (lSortedSet (eL (lComp [8] (iRg1 (aC (eIf (tOf (e2 (gEq true) (eP 2) (eL (lDisp aN)))) (eCall f__law_draw (aC (eV 0) (aC (eC (.int 6)) aN))) (eC (.int 0))) aN)) (bName 8) cYes (eCall f__law_pick (aC (eV 0) (aC (eV 2) aN))))))) aN)) (bName 4))
def W2 : GS := (sSet (eL (lDisp (aC (eV 4) (aC (eRev (eP 4)) (aC (e2 gAdd (eP 4) (eSl (eP 4) oN (oS (eC (.int 1))))) (aC (eL (aGL gListL (aC (eP 4) aN))) (aC (e2 gAdd (eP 4) (eTup (aC (eC (.str ("zzzzzzzz" : Str))) aN))) (aC (eSl (eP 4) oN (oS (eC (.int 1)))) (aC (eCall f__law_odd (aC (eV 0) aN)) aN))))))))) (bName 5))
def W3 : GS := sSeq W1 (sSeq W2 (sFor (iOf (eV 5)) (bName 6) W5))
section
variable {k : Bk} {S S' : Store} {x : D} {B : Int} {lap s t y due e f g : Slot}
theorem w1_ok (o : k.ok) (F : Fd B S) (hB : B < 900000) : ∃ (us : List Str) (S' : Store), W1 (wE k lap s t y due e f g) S = some (.nx (wE k lap (.d (.tup (us.map D.str))) t y due e f g), S') ∧ (∀ z ∈ us, okS 40 z) ∧ us.length ≤ 5 ∧ Fd (B + 10) S' := by
  have pz := o.pz
  have nf := ne_flag (strs_is o.folk)
  have fz : (k.folk.map D.str).length ≤ 10 := by unfold Bk.folk; rw [List.length_map, List.length_map]; exact pz
  have fo := strs_is o.folk
  have fin : ∀ {L : EL} {n : Nat} {S1 : Store}, L (wE k lap s t y due e f g) S = some (ranged 0 n, S1) → n ≤ 5 → (n ≠ 0 → k.folk.map D.str ≠ []) → Fd (B + 1) S1 → ∃ (us : List Str) (S' : Store), (sSet (aG gTuple (aC (eL (lSortedSet (eL (lComp [8] L (bName 8) cYes (eCall f__law_pick (aC (eV 0) (aC (eV 2) aN))))))) aN)) (bName 4)) (wE k lap s t y due e f g) S = some (.nx (wE k lap (.d (.tup (us.map D.str))) t y due e f g), S') ∧ (∀ z ∈ us, okS 40 z) ∧ us.length ≤ 5 ∧ Fd (B + 10) S' := by
    intro L n S1 hL hn ne F1
    obtain ⟨ys, S2, C, o2, l2, F2⟩ := picks_l (j := 8) (i := 2) (n := 40) (ws := k.folk.map D.str) (l := L) (ρ := wE k lap s t y due e f g) (S0 := S) rfl rfl (by decide) (by decide) hL (by rw [ranged_len]; omega) F1 (by omega) fo (fun z => ne fun q => z (by rw [q]; rfl)) (by omega)
    rw [ranged_len] at l2 F2
    obtain ⟨us, U, o3, o4, nd, l3⟩ := sset_m (eL_at C) (fun d m => fo d (o2 d m)) (by omega)
    exact ⟨us, S2, set_at (i := 4) (tup_at (eL_at U)), o3, l3, F2.mono (by omega)⟩
  generalize ef : k.folk.map D.str = fs at *
  by_cases h : fs = []
  · refine fin (n := 0) (S1 := S) (rg1_at (n := 0) ?_ (by decide)) (by decide) (fun q => absurd rfl q) (F.mono (by omega))
    rw [h] at nf
    simp only [List.isEmpty, Bool.not_true] at nf
    unfold wE
    rw [ef, h]
    simp only [runDef, sSeq, sNil, sRet, sIf, sSet, sSetL, sExt, sApp, sPar, sFreeze, sDrop, eC, eV, eP, e1, e2, l2, eL, aN, aC, aG, aGL, tOf, tAndJ, tOrJ, tNotJ, eAnd, eOr, eNot, eIf, eCh, tTru, gTru, eTup, lDisp, iOf, J.items?, iRg1, iRg2, cYes, bName, bTup, bCons, bNil, mN, mD, mO, setsS, eCall, gIsi, gIsi2, isT_tt, gLen, gI0, gLe_i, gGe_i, gGt_i, gLt_i, gAdd_i,  gListL, gTuple, eSl, oN, oS, List.map_cons, List.map_nil, List.map, List.replicate, List.length_cons, List.length_nil, List.nil_append, List.cons_append, List.append_nil, List.set_cons_zero, List.set_cons_succ, List.set, List.length, List.getElem?_cons_zero, List.getElem?_cons_succ, Nat.sub, Nat.reduceSub, Nat.reduceAdd, Nat.reduceLT, Nat.reduceLeDiff, List.getElem?_nil, Bool.false_eq_true, if_true, if_false, Bool.true_and, Bool.false_and, Bool.and_true, Bool.and_false, Bool.not_true, Bool.not_false, Bool.true_or, Bool.or_true, Bool.or_false, Bool.false_or, wipeE, if_pos (sz (k := 0)), nf]
    rfl
  · obtain ⟨v, S1, q1, v0, v1, F1⟩ := draw_ok F (by omega) (m := 6) (by decide) (by decide)
    obtain ⟨n, rfl⟩ : ∃ n : Nat, v = (n : Int) := ⟨_, (Int.toNat_of_nonneg v0).symm⟩
    refine fin (n := n) (S1 := S1) (rg1_at (n := n) ?_ (by omega)) (by omega) (fun _ => h) F1
    rw [emp h] at nf
    simp only [Bool.not_false] at nf
    unfold wE
    rw [ef]
    simp only [runDef, sSeq, sNil, sRet, sIf, sSet, sSetL, sExt, sApp, sPar, sFreeze, sDrop, eC, eV, eP, e1, e2, l2, eL, aN, aC, aG, aGL, tOf, tAndJ, tOrJ, tNotJ, eAnd, eOr, eNot, eIf, eCh, tTru, gTru, eTup, lDisp, iOf, J.items?, iRg1, iRg2, cYes, bName, bTup, bCons, bNil, mN, mD, mO, setsS, eCall, gIsi, gIsi2, isT_tt, gLen, gI0, gLe_i, gGe_i, gGt_i, gLt_i, gAdd_i,  gListL, gTuple, eSl, oN, oS, List.map_cons, List.map_nil, List.map, List.replicate, List.length_cons, List.length_nil, List.nil_append, List.cons_append, List.append_nil, List.set_cons_zero, List.set_cons_succ, List.set, List.length, List.getElem?_cons_zero, List.getElem?_cons_succ, Nat.sub, Nat.reduceSub, Nat.reduceAdd, Nat.reduceLT, Nat.reduceLeDiff, List.getElem?_nil, Bool.false_eq_true, if_true, if_false, Bool.true_and, Bool.false_and, Bool.and_true, Bool.and_false, Bool.not_true, Bool.not_false, Bool.true_or, Bool.or_true, Bool.or_false, Bool.false_or, wipeE, if_pos (sz (k := 0)), nf, q1]
theorem gd_ts {n : Nat} {xs : List D} (h : ∀ d ∈ xs, isStr 40 d) (hz : xs.length ≤ 5000) : gd 10 (.tup xs) := (gd_strs (n := 0) h hz).mono (by decide)
theorem w2_ok {us : List Str} (ou : ∀ z ∈ us, okS 40 z) (lu : us.length ≤ 5) (F : Fd B S) (hB : B < 900000) : ∃ (xs : List D) (S' : Store), W2 (wE k lap (.d (.tup (us.map D.str))) t y due e f g) S = some (.nx (wE k lap (.d (.tup (us.map D.str))) (.d (.lst xs)) y due e f g), S') ∧ (∀ x ∈ xs, gd 10 x) ∧ Fd (B + 1) S' := by
  obtain ⟨od, S', q, go, F'⟩ := odd_ok F hB
  have fo := strs_is ou
  have lf : (us.map D.str).length ≤ 5 := by rw [List.length_map]; exact lu
  generalize us.map D.str = fs at *
  have sl : gSl (.tup fs) none (some 1) = some (.tup (J.cutD fs none (some 1))) := rfl
  have cm : ∀ d ∈ J.cutD fs none (some 1), isStr 40 d := fun d m => fo d (cutD_mem m)
  have cl : (J.cutD fs none (some 1)).length ≤ 5 := Nat.le_trans cutD_len lf
  have zz : isStr 40 (.str "zzzzzzzz") := ⟨_, rfl, okw (by decide +kernel) (by decide)⟩
  generalize J.cutD fs none (some 1) = cs at *
  have a1 : gAdd (.tup fs) (.tup cs) = some (.tup (fs ++ cs)) := gAdd_t (by omega)
  have a2 : gAdd (.tup fs) (.tup [.str "zzzzzzzz"]) = some (.tup (fs ++ [.str "zzzzzzzz"])) := gAdd_t (by rw [List.length_singleton]; omega)
  refine ⟨[.tup fs, .tup fs.reverse, .tup (fs ++ cs), .lst fs, .tup (fs ++ [.str "zzzzzzzz"]), .tup cs, od], S', ?_, ?_, F'⟩
  · unfold W2 wE
    simp only [runDef, sSeq, sNil, sRet, sIf, sSet, sSetL, sExt, sApp, sPar, sFreeze, sDrop, eC, eV, eP, e1, e2, l2, eL, aN, aC, aG, aGL, tOf, tAndJ, tOrJ, tNotJ, eAnd, eOr, eNot, eIf, eCh, tTru, gTru, eTup, lDisp, iOf, J.items?, iRg1, iRg2, cYes, bName, bTup, bCons, bNil, mN, mD, mO, setsS, eCall, gIsi, gIsi2, isT_tt, gLen, gI0, gLe_i, gGe_i, gGt_i, gLt_i, gAdd_i,  gListL, gTuple, eSl, oN, oS, List.map_cons, List.map_nil, List.map, List.replicate, List.length_cons, List.length_nil, List.nil_append, List.cons_append, List.append_nil, List.set_cons_zero, List.set_cons_succ, List.set, List.length, List.getElem?_cons_zero, List.getElem?_cons_succ, Nat.sub, Nat.reduceSub, Nat.reduceAdd, Nat.reduceLT, Nat.reduceLeDiff, List.getElem?_nil, Bool.false_eq_true, if_true, if_false, Bool.true_and, Bool.false_and, Bool.and_true, Bool.and_false, Bool.not_true, Bool.not_false, Bool.true_or, Bool.or_true, Bool.or_false, Bool.false_or, wipeE, eRev, sl, a1, a2, q, if_pos (sz (k := 1)), if_pos (sz (k := 7))]
  · intro x m
    simp only [List.mem_cons, List.not_mem_nil, or_false] at m
    rcases m with rfl | rfl | rfl | rfl | rfl | rfl | rfl
    · exact gd_ts (n := 0) fo (by omega)
    · exact gd_ts (n := 0) (fun d m => fo d (List.mem_reverse.mp m)) (by rw [List.length_reverse]; omega)
    · exact gd_ts (n := 0) (fun d m => (List.mem_append.mp m).elim (fo d) (cm d)) (by rw [List.length_append]; omega)
    · exact (gd_lst (n := 9) (by omega) fun d m => (fo d m).gd (by decide))
    · exact gd_ts (n := 0) (fun d m => (List.mem_append.mp m).elim (fo d) (fun m => by rw [List.mem_singleton.mp m]; exact zz)) (by rw [List.length_append, List.length_singleton]; omega)
    · exact gd_ts (n := 0) cm (by omega)
    · exact go.mono (by decide)
def wI (k : Bk) (_ : Nat) (ρ : J.Env) : Prop := ∃ lap s t y due e f g, ρ = wE k lap s t y due e f g
theorem weights_ok (o : k.ok) (F : Fd B S) (hB : B < 700000) : ∃ S', f__law_weights [.obj 0, k.d, .lst (k.folk.map D.str)] S = some (.bl true, S') := by
  obtain ⟨ρ', S', G, i', F'⟩ := forGo_inv (I := wI k) (bd := bName 3) (body := W3) (k := 20) (N := B + 120) (L := 6) (by decide) (ranged 0 6) 0 (wE k .un .un .un .un .un .un .un .un) B S ⟨.un, .un, .un, .un, .un, .un, .un, .un, rfl⟩ F (by rw [ranged_len]; omega) (by rw [ranged_len]; omega) fun x mx n' ρ' B' S' hn' i' F' hB' => by
    obtain ⟨lap, s, t, y, due, e, f, g, rfl⟩ := i'
    obtain ⟨us, S1, e1, ou, lu, F1⟩ := w1_ok (lap := .d x) (s := s) (t := t) (y := y) (due := due) (e := e) (f := f) (g := g) o F' (by omega)
    obtain ⟨xs, S2, e2, ox, F2⟩ := w2_ok (k := k) (lap := .d x) (t := t) (y := y) (due := due) (e := e) (f := f) (g := g) ou lu F1 (by omega)
    obtain ⟨y', due', e3⟩ := w5_go (lap := .d x) (s := .d (.tup (us.map D.str))) (t := .d (.lst xs)) (e := e) (f := f) (g := g) (S := S2) o xs y due ox
    refine ⟨_, rfl, wE k (.d x) (.d (.tup (us.map D.str))) (.d (.lst xs)) y' due' e f g, S2, ?_, ⟨_, _, _, _, _, _, _, _, rfl⟩, F2.mono (by omega)⟩
    exact (seq_at e1).trans ((seq_at e2).trans (for_at (show iOf (eV 5) _ S2 = some (xs, S2) from rfl) e3))
  obtain ⟨lap, s, t, y, due, e, f, g, rfl⟩ := i'
  refine ⟨S', run_at ((seq_at (for_at (rg1_at (r := aC (eC (.int 6)) aN) (ρ := wE k .un .un .un .un .un .un .un .un) (S := S) (S1 := S) (n := 6) rfl (by decide)) G)).trans (ret_at rfl))⟩
end
end K04

set_option maxHeartbeats 4000000
namespace K04
open PySem PySem.Spec PyProof.Rows L2 J
def lkp : List SRow → Str → List Str
  | [], _ => []
  | r :: rs, m => if r.nm = m then r.us else lkp rs m
theorem lkp_none : ∀ {rows : List SRow} {m : Str}, m ∉ rows.map (·.nm) → lkp rows m = []
  | [], _, _ => rfl
  | r :: rs, m, h => by
    rw [List.map_cons, List.mem_cons, not_or] at h
    rw [lkp, if_neg (fun e => h.1 e.symm), lkp_none h.2]
theorem lkp_of : ∀ {rows : List SRow} {m : Str}, m ∈ rows.map (·.nm) → ∃ r ∈ rows, r.nm = m ∧ lkp rows m = r.us
  | [], _, h => by simp at h
  | r :: rs, m, h => by
    by_cases e : r.nm = m
    · exact ⟨r, List.mem_cons_self, e, if_pos e⟩
    · rw [List.map_cons, List.mem_cons] at h
      obtain ⟨q, mq, eq, el⟩ := lkp_of (h.resolve_left fun z => e z.symm)
      exact ⟨q, List.mem_cons_of_mem _ mq, eq, by rw [lkp, if_neg e, el]⟩
def useOb (rows : List SRow) : Ob := rows.map fun r => (r.nm, D.tup (r.us.map D.str))
theorem use_get : ∀ {rows : List SRow} {m : Str}, m ∈ rows.map (·.nm) → obGet (useOb rows) m = some (.tup ((lkp rows m).map D.str))
  | [], _, h => by simp at h
  | r :: rs, m, h => by
    show (if r.nm = m then some (D.tup (r.us.map D.str)) else obGet (useOb rs) m) = _
    by_cases e : r.nm = m
    · rw [if_pos e, lkp, if_pos e]
    · rw [List.map_cons, List.mem_cons] at h
      rw [if_neg e, lkp, if_neg e, use_get (h.resolve_left fun z => e z.symm)]
theorem has_not : ∀ {o : Ob} {m : Str}, m ∉ o.map (·.1) → obHas o m = false
  | [], _, _ => rfl
  | (k, x) :: r, m, h => by
    rw [List.map_cons, List.mem_cons, not_or] at h
    show (if k = m then true else obHas r m) = false
    rw [if_neg (fun e => h.1 e.symm), has_not h.2]
theorem put_new {o : Ob} {m : Str} {y : D} (h : m ∉ o.map (·.1)) : obPut o m y = o ++ [(m, y)] := by
  unfold obPut
  rw [has_not h]; rfl
theorem dc_use {d : D} {s : Slot} {S : Store} : ∀ (rows : List SRow) (o : Ob), (o.map (·.1) ++ rows.map (·.nm)).Nodup → o.length + rows.length ≤ 1000 → dcGo (bName 2) cYes (e2 gIx (eP 2) (eC (.int 0))) (e2 gIx (eP 2) (eC (.int 4))) [.d d, s, .un] (rows.map SRow.d) o S = some (o ++ useOb rows, S)
  | [], o, _, _ => by simp [dcGo, useOb]
  | r :: rs, o, nd, hz => by
    have hn : r.nm ∉ o.map (·.1) := fun m => by
      rw [List.nodup_append] at nd
      exact nd.2.2 _ m _ (by simp) rfl
    have ih := dc_use (d := d) (s := s) (S := S) rs (o ++ [(r.nm, D.tup (r.us.map D.str))]) (by simpa [List.map_append] using nd) (by simp at hz ⊢; omega)
    rw [List.length_cons] at hz
    rw [List.map_cons, dcGo, show bName 2 r.d [.d d, s, .un] = some [.d d, s, .d r.d] from rfl]
    simp only [cYes]
    rw [show e2 gIx (eP 2) (eC (.int 0)) [.d d, s, .d r.d] S = some (.str r.nm, S) from rfl]
    simp only
    rw [show e2 gIx (eP 2) (eC (.int 4)) [.d d, s, .d r.d] S = some (.tup (r.us.map D.str), S) from rfl]
    simp only
    rw [if_pos (by rw [sizeLine_eq]; omega), put_new hn]
    refine Eq.trans ih ?_
    unfold useOb
    rw [List.map_cons, List.append_assoc]; rfl
/-! ### what is below -/
def Rc (rows : List SRow) (start y : Str) : Prop := ∀ P : Str → Prop, (∀ u ∈ lkp rows start, P u) → (∀ x, P x → ∀ u ∈ lkp rows x, P u) → P y
theorem Rc.base {rows : List SRow} {start y : Str} (h : y ∈ lkp rows start) : Rc rows start y := fun P h1 h2 => h1 y h
theorem Rc.step {rows : List SRow} {start x y : Str} (h : Rc rows start x) (m : y ∈ lkp rows x) : Rc rows start y := fun P h1 h2 => h2 x (h P h1 h2) y m
structure Tr (rows : List SRow) : Prop where
  nd : (rows.map (·.nm)).Nodup
  nok : ∀ z ∈ rows.map (·.nm), okS 40 z
  sub : ∀ m, ∀ u ∈ lkp rows m, u ∈ rows.map (·.nm)
  und : ∀ m, (lkp rows m).Nodup
  ul : ∀ m, (lkp rows m).length ≤ 5
  z : rows.length ≤ 10
theorem Bk.ok.tr {k : Bk} (o : k.ok) : Tr k.rows where
  nd := o.nd
  nok := o.names
  z := o.rz
  sub := fun m u mu => by
    by_cases h : m ∈ k.rows.map (·.nm)
    · obtain ⟨r, mr, _, e⟩ := lkp_of h
      rw [e] at mu
      obtain ⟨q, mq, eq⟩ := List.mem_map.mp ((o.r r mr).u u mu)
      exact List.mem_map.mpr ⟨q, mq, D.str.inj eq⟩
    · rw [lkp_none h] at mu; simp at mu
  und := fun m => by
    by_cases h : m ∈ k.rows.map (·.nm)
    · obtain ⟨r, mr, _, e⟩ := lkp_of h
      rw [e]; exact (o.r r mr).und
    · rw [lkp_none h]; exact List.nodup_nil
  ul := fun m => by
    by_cases h : m ∈ k.rows.map (·.nm)
    · obtain ⟨r, mr, _, e⟩ := lkp_of h
      rw [e]; exact (o.r r mr).uz
    · rw [lkp_none h]; exact Nat.zero_le _
theorem len_in {rows : List SRow} (t : Tr rows) {f : List Str} (nd : f.Nodup) (h : ∀ x ∈ f, x ∈ rows.map (·.nm)) : f.length ≤ rows.length := by
  have := nd.length_le_of_subset (l₂ := rows.map fun r => r.nm) fun x m => h x m
  rw [List.length_map] at this; exact this
/-! the program's walk -/
def fOb (found : List Str) : Ob := found.map fun m => (m, D.bl true)
theorem kf_get : ∀ (found : List Str) (m : Str), (obGet (fOb found) m).isSome = decide (m ∈ found)
  | [], m => by simp [fOb, obGet]
  | x :: r, m => by
    show (if x = m then some (D.bl true) else obGet (fOb r) m).isSome = _
    by_cases e : x = m
    · rw [if_pos e, e]; simp
    · rw [if_neg e, kf_get r m]
      have : m ≠ x := fun z => e z.symm
      simp [this]
theorem kf_put {found : List Str} {m : Str} (h : m ∉ found) : obPut (fOb found) m (.bl true) = fOb (found ++ [m]) := by
  rw [put_new (by unfold fOb; rw [List.map_map]; intro z; obtain ⟨q, mq, e⟩ := List.mem_map.mp z; have e : q = m := e; rw [e] at mq; exact h mq)]
  unfold fOb
  rw [List.map_append]; rfl
def WR : ET := (tTru (eP 3))
def BR : GS := (sSeq (sPop 4 3) (sIf (tInD true (eP 4) (eP 2)) (sSeq (sPut (eP 2) (eP 4) (eC (.bl true))) (sExtA 3 (eGet (eP 0) (eP 4)))) sNil))
def rE (n : Nat) (st : D) (ahead : List Str) (nm : Slot) : J.Env := [.d (.obj n), .d st, .d (.obj (n + 1)), .own (ahead.map D.str), nm]
theorem wr_at {n : Nat} {st : D} {ahead : List Str} {nm : Slot} {S : Store} : WR (rE n st ahead nm) S = some (!ahead.isEmpty, S) := by
  unfold WR rE
  cases ahead <;> rfl
theorem get_n {T : Store} {a b : Ob} : (T ++ [a, b])[T.length]? = some a := by
  rw [List.getElem?_append_right (Nat.le_refl _), Nat.sub_self]; rfl
theorem get_n1 {T : Store} {a b : Ob} : (T ++ [a, b])[T.length + 1]? = some b := by
  rw [List.getElem?_append_right (by omega), show T.length + 1 - T.length = 1 by omega]; rfl
theorem set_n1 {T : Store} {a b c : Ob} : (T ++ [a, b]).set (T.length + 1) c = T ++ [a, c] := by
  rw [List.set_append_right _ _ (by omega), show T.length + 1 - T.length = 1 by omega]; rfl
theorem last_some {ahead : List Str} {x : Str} : ((ahead ++ [x]).map D.str).getLast? = some (.str x) := by
  rw [List.map_append]; simp
theorem last_drop {ahead : List Str} {x : Str} : ((ahead ++ [x]).map D.str).dropLast = ahead.map D.str := by
  rw [List.map_append]; simp
section
variable {rows : List SRow} {start : Str} {T : Store}
theorem br_at {st : D} {found ahead : List Str} {x : Str} {nm : Slot} (t : Tr rows) (hx : x ∈ rows.map (·.nm)) (hz : ahead.length ≤ 1000000) (hf : found.length ≤ 1000) :
    BR (rE T.length st (ahead ++ [x]) nm) (T ++ [useOb rows, fOb found]) = some (if x ∈ found then (.nx (rE T.length st ahead (.d (.str x))), T ++ [useOb rows, fOb found]) else (.nx (rE T.length st (ahead ++ lkp rows x) (.d (.str x))), T ++ [useOb rows, fOb (found ++ [x])])) := by
  have P : sPop 4 3 (rE T.length st (ahead ++ [x]) nm) (T ++ [useOb rows, fOb found]) = some (.nx (rE T.length st ahead (.d (.str x))), T ++ [useOb rows, fOb found]) := by
    unfold sPop rE
    simp only [List.getElem?_cons_zero, List.getElem?_cons_succ, last_some, last_drop, List.set_cons_zero, List.set_cons_succ]
  have I : tInD true (eP 4) (eP 2) (rE T.length st ahead (.d (.str x))) (T ++ [useOb rows, fOb found]) = some (!decide (x ∈ found), T ++ [useOb rows, fOb found]) := by
    unfold tInD rE
    simp only [eP, List.getElem?_cons_zero, List.getElem?_cons_succ, get_n1, kf_get, if_true]
  refine (seq_at P).trans ?_
  by_cases h : x ∈ found
  · rw [decide_eq_true h] at I
    rw [if_pos h]
    exact (if_f I).trans rfl
  · rw [decide_eq_false h] at I
    rw [if_neg h]
    refine (if_t I).trans ?_
    have U : sPut (eP 2) (eP 4) (eC (.bl true)) (rE T.length st ahead (.d (.str x))) (T ++ [useOb rows, fOb found]) = some (.nx (rE T.length st ahead (.d (.str x))), T ++ [useOb rows, fOb (found ++ [x])]) := by
      have lf : (fOb found).length < sizeLine := by unfold fOb; rw [List.length_map, sizeLine_eq]; omega
      unfold sPut rE
      simp only [eC, eP, List.getElem?_cons_zero, List.getElem?_cons_succ, get_n1, if_pos lf, kf_put h, set_n1]
    have G : eGet (eP 0) (eP 4) (rE T.length st ahead (.d (.str x))) (T ++ [useOb rows, fOb (found ++ [x])]) = some (.tup ((lkp rows x).map D.str), T ++ [useOb rows, fOb (found ++ [x])]) := by
      unfold eGet rE
      simp only [eP, List.getElem?_cons_zero, List.getElem?_cons_succ, get_n, use_get hx]
    refine (seq_at U).trans ?_
    unfold sExtA
    rw [show (rE T.length st ahead (.d (.str x)))[3]? = some (.own (ahead.map D.str)) from rfl]
    simp only
    rw [G]
    simp only
    have lu := t.ul x
    rw [if_pos (by rw [List.length_map, List.length_map, sizeLine_eq]; omega), ← List.map_append]
    rfl
structure IR (rows : List SRow) (start : Str) (found ahead : List Str) : Prop where
  nd : found.Nodup
  fn : ∀ x ∈ found, x ∈ rows.map (·.nm)
  an : ∀ x ∈ ahead, x ∈ rows.map (·.nm)
  fr : ∀ x ∈ found, Rc rows start x
  ar : ∀ x ∈ ahead, Rc rows start x
  c0 : ∀ u ∈ lkp rows start, u ∈ found ∨ u ∈ ahead
  c1 : ∀ x ∈ found, ∀ u ∈ lkp rows x, u ∈ found ∨ u ∈ ahead
theorem reach_go {st : D} (t : Tr rows) : ∀ (f : Nat) (found ahead : List Str) (nm : Slot), IR rows start found ahead → f ≤ 1000000 → ahead.length + 6 * (rows.length - found.length) < f →
    ∃ found' nm', whileGo WR BR f (rE T.length st ahead nm) (T ++ [useOb rows, fOb found]) = some (.nx (rE T.length st [] nm'), T ++ [useOb rows, fOb found']) ∧ IR rows start found' []
  | 0, found, ahead, nm, i, hf, h => absurd h (Nat.not_lt_zero _)
  | f + 1, found, ahead, nm, i, hf, h => by
    rw [whileGo, wr_at]
    rcases List.eq_nil_or_concat ahead with rfl | ⟨a', x, e⟩
    · exact ⟨found, nm, rfl, i⟩
    · rw [List.concat_eq_append] at e
      subst e
      have ne : (a' ++ [x]).isEmpty = false := by cases a' <;> rfl
      have hx := i.an x (by simp)
      have lf := len_in t i.nd i.fn
      have lz := t.z
      rw [List.length_append, List.length_singleton] at h
      simp only [ne, Bool.not_false]
      rw [br_at t hx (by omega) (by omega)]
      by_cases m : x ∈ found
      · rw [if_pos m]
        exact reach_go t f found a' (.d (.str x)) ⟨i.nd, i.fn, fun y my => i.an y (by simp [my]), i.fr, fun y my => i.ar y (by simp [my]), fun u mu => (i.c0 u mu).elim .inl fun q => (by
          rcases List.mem_append.mp q with q | q
          · exact .inr q
          · rw [List.mem_singleton.mp q]; exact .inl m), fun y my u mu => (i.c1 y my u mu).elim .inl fun q => (by
          rcases List.mem_append.mp q with q | q
          · exact .inr q
          · rw [List.mem_singleton.mp q]; exact .inl m)⟩ (by omega) (by omega)
      · rw [if_neg m]
        have nd' : (found ++ [x]).Nodup := List.nodup_append.mpr ⟨i.nd, by simp, fun a ma b mb e => by rw [List.mem_singleton.mp mb] at e; rw [e] at ma; exact m ma⟩
        have fn' : ∀ y ∈ found ++ [x], y ∈ rows.map (·.nm) := fun y my => (List.mem_append.mp my).elim (i.fn y) fun q => by rw [List.mem_singleton.mp q]; exact hx
        have lf' := len_in t nd' fn'
        have lu := t.ul x
        rw [List.length_append, List.length_singleton] at lf'
        have rx := i.ar x (by simp)
        have mv : ∀ u, (u ∈ found ∨ u ∈ a' ++ [x]) → (u ∈ found ++ [x] ∨ u ∈ a' ++ lkp rows x) := fun u q => by
          rcases q with q | q
          · exact .inl (List.mem_append.mpr (.inl q))
          · rcases List.mem_append.mp q with q | q
            · exact .inr (List.mem_append.mpr (.inl q))
            · exact .inl (List.mem_append.mpr (.inr q))
        exact reach_go t f (found ++ [x]) (a' ++ lkp rows x) (.d (.str x)) ⟨nd', fn', fun y my => (List.mem_append.mp my).elim (fun q => i.an y (by simp [q])) (t.sub x y),
          fun y my => (List.mem_append.mp my).elim (i.fr y) fun q => (by rw [List.mem_singleton.mp q]; exact rx),
          fun y my => (List.mem_append.mp my).elim (fun q => i.ar y (by simp [q])) fun q => rx.step q,
          fun u mu => mv u (i.c0 u mu), fun y my u mu => (List.mem_append.mp my).elim (fun q => mv u (i.c1 y q u mu)) fun q => (by
            rw [List.mem_singleton.mp q] at mu
            exact .inr (List.mem_append.mpr (.inr mu)))⟩ (by omega) (by rw [List.length_append, List.length_append, List.length_singleton]; omega)
theorem IR.mem {found : List Str} (i : IR rows start found []) (y : Str) : y ∈ found ↔ Rc rows start y :=
  ⟨i.fr y, fun h => h (· ∈ found) (fun u mu => (i.c0 u mu).elim id fun q => by simp at q) fun x mx u mu => (i.c1 x mx u mu).elim id fun q => by simp at q⟩
theorem reached_ok {S : Store} (t : Tr rows) (hs : start ∈ rows.map (·.nm)) : ∃ found, f_reached [.obj T.length, .str start] (T ++ [useOb rows]) = some (.obj (T.length + 1), T ++ [useOb rows, fOb found]) ∧ IR rows start found [] := by
  have lu := t.ul start
  have lz := t.z
  obtain ⟨found, nm, G, I⟩ := reach_go (T := T) (start := start) (st := .str start) t fuelW [] (lkp rows start) .un ⟨List.nodup_nil, fun x m => by simp at m, t.sub start, fun x m => by simp at m, fun x m => .base m, fun u m => .inr m, fun x m => by simp at m⟩ (Nat.le_refl _) (by show _ < 1000000; rw [List.length_nil]; omega)
  refine ⟨found, ?_, I⟩
  have T1 : sSet eNew (bName 2) [.d (.obj T.length), .d (.str start), .un, .un, .un] (T ++ [useOb rows]) = some (.nx [.d (.obj T.length), .d (.str start), .d (.obj (T.length + 1)), .un, .un], T ++ [useOb rows, []]) := by
    have e : (T ++ [useOb rows]) ++ [([] : Ob)] = T ++ [useOb rows, []] := by simp
    have l : (T ++ [useOb rows]).length = T.length + 1 := by simp
    unfold sSet eNew bName
    simp only [List.set_cons_zero, List.set_cons_succ]
    rw [l, e]
  have T2 : sSetL 3 (lListA (eGet (eP 0) (eP 1))) [.d (.obj T.length), .d (.str start), .d (.obj (T.length + 1)), .un, .un] (T ++ [useOb rows, []]) = some (.nx (rE T.length (.str start) (lkp rows start) .un), T ++ [useOb rows, fOb []]) := by
    unfold sSetL lListA eGet
    simp only [eP, List.getElem?_cons_zero, List.getElem?_cons_succ, get_n, use_get hs]
    rfl
  exact run_at ((seq_at T1).trans ((seq_at T2).trans ((seq_at G).trans (ret_at (show eV 2 (rE T.length (.str start) [] nm) _ = some (.obj (T.length + 1), _) from rfl)))))
end
section
variable {k : Bk} {S S' : Store} {x : D} {B : Int}
theorem keys_at {f : EX} {ρ : J.Env} {T : Store} {a : Ob} {found : List Str} (h : f ρ S = some (.obj (T.length + 1), T ++ [a, fOb found])) : lListA f ρ S = some (found.map D.str, T ++ [a, fOb found]) := by
  unfold lListA
  rw [h]
  simp only
  rw [get_n1]
  simp only
  unfold fOb
  rw [List.map_map]; rfl
theorem uses_below_ok (o : k.ok) (gx : gd 10 x) : (memN x k.names = false ∧ f_uses_below [k.d, x] S = some (refused "source", S)) ∨ ∃ z found, x = .str z ∧ z ∈ k.names ∧ IR k.rows z found [] ∧ f_uses_below [k.d, x] S = some (.ok (.tup ((srt found).map D.str)), S ++ [useOb k.rows, fOb found]) := by
  have N := need_source_ok (w := "source") (S := S) o gx
  by_cases h : memN x k.names = true
  · rw [if_pos h] at N
    cases x with
    | str z =>
      have hz : z ∈ k.names := of_decide_eq_true h
      obtain ⟨found, R, I⟩ := reached_ok (T := S) (S := S) o.tr hz
      refine .inr ⟨z, found, rfl, hz, I, ?_⟩
      have D1 : eCallX f_need_source (aC (eC (.str ("source" : Str))) (aC (eV 0) (aC (eV 1) aN))) [.d k.d, .d (.str z), .un] S = some (.ok .non, S) := N
      have DC := dc_use (d := k.d) (s := .d (.str z)) (S := S) k.rows [] (by rw [List.map_nil, List.nil_append]; exact o.nd) (by have := o.rz; simp; omega)
      have E1 : eDcomp [2] (iOf (e2 gIx (eP 0) (eC (.int 0)))) (bName 2) cYes (e2 gIx (eP 2) (eC (.int 0))) (e2 gIx (eP 2) (eC (.int 4))) [.d k.d, .d (.str z), .un] S = some (.obj S.length, S ++ [useOb k.rows]) := by
        unfold eDcomp
        rw [show iOf (e2 gIx (eP 0) (eC (.int 0))) [.d k.d, .d (.str z), .un] S = some (k.rows.map SRow.d, S) from rfl]
        simp only
        rw [show wipeE [.d k.d, .d (.str z), .un] [2] = [.d k.d, .d (.str z), .un] from rfl, DC]
        rfl
      have E2 := keys_at ((call2_at (G := f_reached) E1 (show eV 1 [.d k.d, .d (.str z), .un] (S ++ [useOb k.rows]) = some (.str z, S ++ [useOb k.rows]) from rfl)).trans R)
      have lf := len_in o.tr I.nd I.fn
      have A := asc_ok (rows := found) (S := S ++ [useOb k.rows, fOb found]) (n := 40) (fun y my => o.names y (I.fn y my)) (by decide) (by have := o.rz; omega)
      rw [nub_id I.nd] at A
      exact runX_rt ((seq_at (drop_ok D1)).trans (ret_at ((call1_at (eL_at E2)).trans A)))
    | _ => cases h
  · rw [if_neg h] at N
    refine .inl ⟨by simpa using h, ?_⟩
    have D1 : eCallX f_need_source (aC (eC (.str ("source" : Str))) (aC (eV 0) (aC (eV 1) aN))) [.d k.d, .d x, .un] S = some (refused "source", S) := N
    exact runX_ex (seq_ex (drop_ref D1))
end
end K04

set_option maxHeartbeats 4000000
namespace K04
open PySem PySem.Spec PyProof.Rows L2 J
/-! ### below, by the law -/
def WL : ET := (tOf (e2 (gEq true) (eP 3) (eL (lDisp aN))))
def BLi : GS := (sIf (tOf (e2 (gEq false) (e2 gIx (eP 5) (eC (.int 0))) (eP 4))) (sSeq (sSet (eL (lComp [7] (iOf (e2 gIx (eP 5) (eC (.int 4)))) (bName 7) (tOf (e2 (gIn true) (eP 7) (eP 2))) (eV 7))) (bName 6)) (sSeq (sExt 3 (eP 6)) (sExt 2 (eP 6)))) sNil)
def BL : GS := (sSeq (sPop 4 3) (sFor (iOf (eV 0)) (bName 5) BLi))
def lE (rows : List SRow) (nm : D) (found left : List Str) (last s5 s6 : Slot) : J.Env := [.d (.tup (rows.map SRow.d)), .d nm, .own (found.map D.str), .own (left.map D.str), last, s5, s6, .un]
section
variable {rows : List SRow} {start : Str} {nm : D} {S : Store}
def frs (found us : List Str) : List Str := us.filter fun u => !decide (u ∈ found)
theorem wl_at {found left : List Str} {last s5 s6 : Slot} (h : ∀ z ∈ left, okS 40 z) : WL (lE rows nm found left last s5 s6) S = some (!left.isEmpty, S) := by
  have N := ne_flag (strs_is h)
  rw [show (left.map D.str).isEmpty = left.isEmpty by cases left <;> rfl] at N
  exact tOf_at (e2_at (show eP 3 (lE rows nm found left last s5 s6) S = some (.lst (left.map D.str), S) from rfl) (eL_at (lDisp0 _ S)) N)
theorem bl_el {r : SRow} {found left : List Str} {x : Str} {s6 : Slot} (on : okS 40 r.nm) (ou : ∀ u ∈ r.us, okS 40 u) (uz : r.us.length ≤ 5) (ox : okS 40 x) (of' : ∀ z ∈ found, okS 40 z) (lz : found.length ≤ 2000000) (ll : left.length ≤ 2000000) :
    ∃ s6', BLi (lE rows nm found left (.d (.str x)) (.d r.d) s6) S = some (.nx (if r.nm = x then lE rows nm (found ++ frs found r.us) (left ++ frs found r.us) (.d (.str x)) (.d r.d) s6' else lE rows nm found left (.d (.str x)) (.d r.d) s6'), S) := by
  have Q := gEq_s (neg := false) on (by decide) ox (by decide)
  simp only [Bool.false_eq_true, if_false] at Q
  have C0 : tOf (e2 (gEq false) (e2 gIx (eP 5) (eC (.int 0))) (eP 4)) (lE rows nm found left (.d (.str x)) (.d r.d) s6) S = some (decide (r.nm = x), S) :=
    tOf_at (e2_at (show e2 gIx (eP 5) (eC (.int 0)) (lE rows nm found left (.d (.str x)) (.d r.d) s6) S = some (.str r.nm, S) from rfl) (show eP 4 (lE rows nm found left (.d (.str x)) (.d r.d) s6) S = some (.str x, S) from rfl) Q)
  by_cases h : r.nm = x
  · rw [decide_eq_true h] at C0
    have C := lComp_filter (vs := [7]) (l := iOf (e2 gIx (eP 5) (eC (.int 4)))) (bd := bName 7) (cond := tOf (e2 (gIn true) (eP 7) (eP 2))) (elt := eV 7) (ρ := lE rows nm found left (.d (.str x)) (.d r.d) s6) (S := S) (xs := r.us.map D.str) (fun y => !memN y found) rfl (by rw [List.length_map]; omega) fun y m => by
      obtain ⟨z, mz, rfl⟩ := List.mem_map.mp m
      have G := gIn_ln (neg := true) (x := .str z) (ns := found) of' (by decide) ((ou z mz).good (by decide)) (Nat.zero_le _)
      simp only [if_true] at G
      refine ⟨_, rfl, ?_, rfl⟩
      unfold lE
      simp only [runDef, sSeq, sNil, sRet, sIf, sSet, sSetL, sExt, sApp, sPar, sFreeze, sDrop, eC, eV, eP, e1, e2, l2, eL, aN, aC, aG, aGL, tOf, tAndJ, tOrJ, tNotJ, eAnd, eOr, eNot, eIf, eCh, tTru, gTru, eTup, lDisp, iOf, J.items?, iRg1, iRg2, cYes, bName, bTup, bCons, bNil, mN, mD, mO, setsS, eCall, gIsi, gIsi2, isT_tt, gLen, gI0, gLe_i, gGe_i, gGt_i, gLt_i, gAdd_i,  gListL, gTuple, eSl, oN, oS, List.map_cons, List.map_nil, List.map, List.replicate, List.length_cons, List.length_nil, List.nil_append, List.cons_append, List.append_nil, List.set_cons_zero, List.set_cons_succ, List.set, List.length, List.getElem?_cons_zero, List.getElem?_cons_succ, Nat.sub, Nat.reduceSub, Nat.reduceAdd, Nat.reduceLT, Nat.reduceLeDiff, List.getElem?_nil, Bool.false_eq_true, if_true, if_false, Bool.true_and, Bool.false_and, Bool.and_true, Bool.and_false, Bool.not_true, Bool.not_false, Bool.true_or, Bool.or_true, Bool.or_false, Bool.false_or, wipeE, G]
    have E : (r.us.map D.str).filter (fun y => !memN y found) = (frs found r.us).map D.str := by
      unfold frs
      rw [List.filter_map]; rfl
    rw [E] at C
    have lf : (frs found r.us).length ≤ 5 := Nat.le_trans (List.length_filter_le _ _) uz
    refine ⟨.d (.lst ((frs found r.us).map D.str)), (if_t C0).trans ?_⟩
    rw [if_pos h]
    generalize frs found r.us = fr at *
    have T1 : sSet (eL (lComp [7] (iOf (e2 gIx (eP 5) (eC (.int 4)))) (bName 7) (tOf (e2 (gIn true) (eP 7) (eP 2))) (eV 7))) (bName 6) (lE rows nm found left (.d (.str x)) (.d r.d) s6) S = some (.nx (lE rows nm found left (.d (.str x)) (.d r.d) (.d (.lst (fr.map D.str)))), S) := set_at (i := 6) (eL_at C)
    have T2 : sExt 3 (eP 6) (lE rows nm found left (.d (.str x)) (.d r.d) (.d (.lst (fr.map D.str)))) S = some (.nx (lE rows nm found (left ++ fr) (.d (.str x)) (.d r.d) (.d (.lst (fr.map D.str)))), S) := by
      unfold sExt
      rw [show (lE rows nm found left (.d (.str x)) (.d r.d) (.d (.lst (fr.map D.str))))[3]? = some (.own (left.map D.str)) from rfl]
      simp only
      rw [show eP 6 (lE rows nm found left (.d (.str x)) (.d r.d) (.d (.lst (fr.map D.str)))) S = some (.lst (fr.map D.str), S) from rfl]
      simp only
      rw [if_pos (by rw [List.length_map, List.length_map, sizeLine_eq]; omega), ← List.map_append]; rfl
    have T3 : sExt 2 (eP 6) (lE rows nm found (left ++ fr) (.d (.str x)) (.d r.d) (.d (.lst (fr.map D.str)))) S = some (.nx (lE rows nm (found ++ fr) (left ++ fr) (.d (.str x)) (.d r.d) (.d (.lst (fr.map D.str)))), S) := by
      unfold sExt
      rw [show (lE rows nm found (left ++ fr) (.d (.str x)) (.d r.d) (.d (.lst (fr.map D.str))))[2]? = some (.own (found.map D.str)) from rfl]
      simp only
      rw [show eP 6 (lE rows nm found (left ++ fr) (.d (.str x)) (.d r.d) (.d (.lst (fr.map D.str)))) S = some (.lst (fr.map D.str), S) from rfl]
      simp only
      rw [if_pos (by rw [List.length_map, List.length_map, sizeLine_eq]; omega), ← List.map_append]; rfl
    exact (seq_at T1).trans ((seq_at T2).trans T3)
  · rw [decide_eq_false h] at C0
    refine ⟨s6, (if_f C0).trans ?_⟩
    rw [if_neg h]; rfl
theorem frs_nil (found : List Str) : frs found [] = [] := rfl
theorem bl_no {x : Str} (ox : okS 40 x) : ∀ (rs : List SRow) (found left : List Str) (s5 s6 : Slot), x ∉ rs.map (·.nm) → (∀ r ∈ rs, okS 40 r.nm ∧ (∀ u ∈ r.us, okS 40 u) ∧ r.us.length ≤ 5) → (∀ z ∈ found, okS 40 z) → found.length ≤ 2000000 → left.length ≤ 2000000 →
    ∃ s5' s6', forGo (bName 5) BLi (rs.map SRow.d) (lE rows nm found left (.d (.str x)) s5 s6) S = some (.nx (lE rows nm found left (.d (.str x)) s5' s6'), S)
  | [], found, left, s5, s6, _, _, _, _, _ => ⟨s5, s6, rfl⟩
  | r :: rs, found, left, s5, s6, no, h, hf, lf, ll => by
    obtain ⟨on, ou, uz⟩ := h r List.mem_cons_self
    obtain ⟨t6, e1⟩ := bl_el (rows := rows) (nm := nm) (S := S) (s6 := s6) (left := left) on ou uz ox hf lf ll
    rw [List.map_cons, List.mem_cons, not_or] at no
    rw [if_neg fun e => no.1 e.symm] at e1
    obtain ⟨u5, u6, g⟩ := bl_no ox rs found left (.d r.d) t6 no.2 (fun y my => h y (List.mem_cons_of_mem _ my)) hf lf ll
    refine ⟨u5, u6, ?_⟩
    rw [List.map_cons, forGo, show bName 5 r.d (lE rows nm found left (.d (.str x)) s5 s6) = some (lE rows nm found left (.d (.str x)) (.d r.d) s6) from rfl]
    simp only
    rw [e1]
    exact g
theorem bl_go {x : Str} (ox : okS 40 x) : ∀ (rs : List SRow) (found left : List Str) (s5 s6 : Slot), (rs.map (·.nm)).Nodup → (∀ r ∈ rs, okS 40 r.nm ∧ (∀ u ∈ r.us, okS 40 u) ∧ r.us.length ≤ 5) → (∀ z ∈ found, okS 40 z) → found.length ≤ 1000 → left.length ≤ 1000000 →
    ∃ s5' s6', forGo (bName 5) BLi (rs.map SRow.d) (lE rows nm found left (.d (.str x)) s5 s6) S = some (.nx (lE rows nm (found ++ frs found (lkp rs x)) (left ++ frs found (lkp rs x)) (.d (.str x)) s5' s6'), S)
  | [], found, left, s5, s6, _, _, _, _, _ => ⟨s5, s6, by simp [forGo, lkp, frs]⟩
  | r :: rs, found, left, s5, s6, nd, h, hf, lf, ll => by
    obtain ⟨on, ou, uz⟩ := h r List.mem_cons_self
    obtain ⟨t6, e1⟩ := bl_el (rows := rows) (nm := nm) (S := S) (s6 := s6) (left := left) on ou uz ox hf (by omega) (by omega)
    have nd' := List.nodup_cons.mp (show (r.nm :: rs.map (·.nm)).Nodup from nd)
    rw [List.map_cons, forGo, show bName 5 r.d (lE rows nm found left (.d (.str x)) s5 s6) = some (lE rows nm found left (.d (.str x)) (.d r.d) s6) from rfl]
    simp only
    rw [e1]
    simp only
    by_cases q : r.nm = x
    · have fl : (frs found r.us).length ≤ 5 := Nat.le_trans (List.length_filter_le _ _) uz
      rw [if_pos q, lkp, if_pos q]
      exact bl_no ox rs (found ++ frs found r.us) (left ++ frs found r.us) (.d r.d) t6 (by rw [← q]; exact nd'.1) (fun y my => h y (List.mem_cons_of_mem _ my)) (fun z mz => (List.mem_append.mp mz).elim (hf z) fun m => ou z (List.mem_filter.mp m).1) (by rw [List.length_append]; omega) (by rw [List.length_append]; omega)
    · rw [if_neg q, lkp, if_neg q]
      exact bl_go ox rs found left (.d r.d) t6 nd'.2 (fun y my => h y (List.mem_cons_of_mem _ my)) hf lf ll
structure IL (rows : List SRow) (start : Str) (found left : List Str) : Prop where
  nd : found.Nodup
  fn : ∀ x ∈ found, x ∈ rows.map (·.nm)
  fr : ∀ x ∈ found, Rc rows start x
  le : ∀ x ∈ left, x ∈ found ∨ x = start
  cl : ∀ x, (x ∈ found ∨ x = start) → x ∉ left → ∀ u ∈ lkp rows x, u ∈ found
theorem IL.next {found a : List Str} {x : Str} (t : Tr rows) (i : IL rows start found (a ++ [x])) : IL rows start (found ++ frs found (lkp rows x)) (a ++ frs found (lkp rows x)) where
  nd := List.nodup_append.mpr ⟨i.nd, (t.und x).filter _, fun p mp q mq e => by
    have := (List.mem_filter.mp mq).2
    rw [e] at mp
    simp [mp] at this⟩
  fn := fun y m => (List.mem_append.mp m).elim (i.fn y) fun q => t.sub x y (List.mem_filter.mp q).1
  fr := fun y m => (List.mem_append.mp m).elim (i.fr y) fun q => by
    have my := (List.mem_filter.mp q).1
    rcases i.le x (by simp) with h | h
    · exact (i.fr x h).step my
    · rw [h] at my; exact .base my
  le := fun y m => (List.mem_append.mp m).elim (fun q => (i.le y (by simp [q])).elim (fun h => .inl (List.mem_append.mpr (.inl h))) .inr) fun q => .inl (List.mem_append.mpr (.inr q))
  cl := fun y hy no u mu => by
    rw [List.mem_append, not_or] at no
    by_cases e : y = x
    · rw [e] at mu
      by_cases f : u ∈ found
      · exact List.mem_append.mpr (.inl f)
      · exact List.mem_append.mpr (.inr (List.mem_filter.mpr ⟨mu, by simp [f]⟩))
    · refine List.mem_append.mpr (.inl (i.cl y ?_ ?_ u mu))
      · rcases hy with h | h
        · rcases List.mem_append.mp h with h | h
          · exact .inl h
          · exact absurd h no.2
        · exact .inr h
      · intro m
        rcases List.mem_append.mp m with m | m
        · exact no.1 m
        · exact e (List.mem_singleton.mp m)
theorem below_go (t : Tr rows) (hs : start ∈ rows.map (·.nm)) (hr : ∀ r ∈ rows, okS 40 r.nm ∧ (∀ u ∈ r.us, okS 40 u) ∧ r.us.length ≤ 5) : ∀ (f : Nat) (found left : List Str) (last s5 s6 : Slot), IL rows start found left → f ≤ 1000000 → left.length + 2 * (rows.length - found.length) < f →
    ∃ found' last' s5' s6', whileGo WL BL f (lE rows nm found left last s5 s6) S = some (.nx (lE rows nm found' [] last' s5' s6'), S) ∧ IL rows start found' []
  | 0, found, left, last, s5, s6, i, hf, h => absurd h (Nat.not_lt_zero _)
  | f + 1, found, left, last, s5, s6, i, hf, h => by
    have lok : ∀ z ∈ left, okS 40 z := fun z m => (i.le z m).elim (fun q => t.nok z (i.fn z q)) fun q => by rw [q]; exact t.nok start hs
    rw [whileGo, wl_at lok]
    rcases List.eq_nil_or_concat left with rfl | ⟨a, x, e⟩
    · exact ⟨found, last, s5, s6, rfl, i⟩
    · rw [List.concat_eq_append] at e
      subst e
      have ne : (a ++ [x]).isEmpty = false := by cases a <;> rfl
      have lf := len_in t i.nd i.fn
      have lz := t.z
      rw [List.length_append, List.length_singleton] at h
      have P : sPop 4 3 (lE rows nm found (a ++ [x]) last s5 s6) S = some (.nx (lE rows nm found a (.d (.str x)) s5 s6), S) := by
        unfold sPop lE
        simp only [List.getElem?_cons_zero, List.getElem?_cons_succ, last_some, last_drop, List.set_cons_zero, List.set_cons_succ]
      obtain ⟨t5, t6, g⟩ := bl_go (rows := rows) (nm := nm) (S := S) (lok x (by simp)) rows found a s5 s6 t.nd hr (fun z m => t.nok z (i.fn z m)) (by omega) (by omega)
      have G : BL (lE rows nm found (a ++ [x]) last s5 s6) S = some (.nx (lE rows nm (found ++ frs found (lkp rows x)) (a ++ frs found (lkp rows x)) (.d (.str x)) t5 t6), S) := (seq_at P).trans (for_at (show iOf (eV 0) (lE rows nm found a (.d (.str x)) s5 s6) S = some (rows.map SRow.d, S) from rfl) g)
      have i' := i.next t
      have lf' := len_in t i'.nd i'.fn
      rw [List.length_append] at lf'
      obtain ⟨found', last', s5', s6', g2, i2⟩ := below_go t hs hr f (found ++ frs found (lkp rows x)) (a ++ frs found (lkp rows x)) (.d (.str x)) t5 t6 i' (by omega) (by rw [List.length_append, List.length_append]; omega)
      refine ⟨found', last', s5', s6', ?_, i2⟩
      simp only [ne, Bool.not_false]
      rw [G]
      exact g2
theorem IL.mem {found : List Str} (i : IL rows start found []) (y : Str) : y ∈ found ↔ Rc rows start y :=
  ⟨i.fr y, fun h => h (· ∈ found) (fun u mu => i.cl start (.inr rfl) (by simp) u mu) fun x mx u mu => i.cl x (.inl mx) (by simp) u mu⟩
theorem law_below_ok (t : Tr rows) (hs : start ∈ rows.map (·.nm)) (hr : ∀ r ∈ rows, okS 40 r.nm ∧ (∀ u ∈ r.us, okS 40 u) ∧ r.us.length ≤ 5) : ∃ found, f__law_below [.tup (rows.map SRow.d), .str start] S = some (.tup ((srt found).map D.str), S) ∧ IL rows start found [] := by
  have lz := t.z
  obtain ⟨found, last, s5, s6, G, I⟩ := below_go (nm := .str start) (S := S) t hs hr fuelW [] [start] .un .un .un ⟨List.nodup_nil, fun x m => by simp at m, fun x m => by simp at m, fun x m => .inr (by simpa using m), fun x hx no => by
    rcases hx with h | h
    · simp at h
    · exact absurd (by rw [h]; simp) no⟩ (Nat.le_refl _) (by show _ < 1000000; rw [List.length_singleton, List.length_nil]; omega)
  refine ⟨found, ?_, I⟩
  have T1 : sPar [2, 3] (mO (lDisp aN) (mO (lDisp (aC (eV 1) aN)) mN)) [.d (.tup (rows.map SRow.d)), .d (.str start), .un, .un, .un, .un, .un, .un] S = some (.nx (lE rows (.str start) [] [start] .un .un .un), S) := by
    unfold lE
    simp only [runDef, sSeq, sNil, sRet, sIf, sSet, sSetL, sExt, sApp, sPar, sFreeze, sDrop, eC, eV, eP, e1, e2, l2, eL, aN, aC, aG, aGL, tOf, tAndJ, tOrJ, tNotJ, eAnd, eOr, eNot, eIf, eCh, tTru, gTru, eTup, lDisp, iOf, J.items?, iRg1, iRg2, cYes, bName, bTup, bCons, bNil, mN, mD, mO, setsS, eCall, gIsi, gIsi2, isT_tt, gLen, gI0, gLe_i, gGe_i, gGt_i, gLt_i, gAdd_i,  gListL, gTuple, eSl, oN, oS, List.map_cons, List.map_nil, List.map, List.replicate, List.length_cons, List.length_nil, List.nil_append, List.cons_append, List.append_nil, List.set_cons_zero, List.set_cons_succ, List.set, List.length, List.getElem?_cons_zero, List.getElem?_cons_succ, Nat.sub, Nat.reduceSub, Nat.reduceAdd, Nat.reduceLT, Nat.reduceLeDiff, List.getElem?_nil, Bool.false_eq_true, if_true, if_false, Bool.true_and, Bool.false_and, Bool.and_true, Bool.and_false, Bool.not_true, Bool.not_false, Bool.true_or, Bool.or_true, Bool.or_false, Bool.false_or, wipeE, sPar, if_pos (sz (k := 0)), if_pos (sz (k := 1))]
  have lf := len_in t I.nd I.fn
  have T3 := nn_sort (f := eP 2) (ρ := lE rows (.str start) found [] last s5 s6) (S0 := S) (S' := S) (ys := found) rfl (by omega)
  exact run_at ((seq_at T1).trans ((seq_at G).trans (ret_at (tup_at T3))))
end
/-! ### one thing, right -/
section
variable {k : Bk} {S S' : Store} {x : D} {B : Int}
theorem Fd.more {T : Store} (F : Fd B S) : Fd B (S ++ T) := by
  obtain ⟨cs, a, b, c, R, e, h⟩ := F
  exact ⟨cs, a, b, c, R ++ T, by rw [e]; rfl, h⟩
theorem in_folk (o : k.ok) (gx : gd 10 x) {due : Slot} : tAndJ (tOf (e2 (gIn false) (eP 1) (eL (lComp [3, 5] (iOf (e2 gIx (eP 0) (eC (.int 1)))) (bTup 2 (bCons (bName 3) (bCons (bName 5) bNil))) cYes (eV 3))))) (tTru (e1 (gIsi .str) (eP 1))) [.d k.d, .d x, due, .un, .un, .un] S = some (memN x k.folk, S) := by
  have C := lComp_map (vs := [3, 5]) (l := iOf (e2 gIx (eP 0) (eC (.int 1)))) (bd := bTup 2 (bCons (bName 3) (bCons (bName 5) bNil))) (cond := cYes) (elt := eV 3) (ρ := [.d k.d, .d x, due, .un, .un, .un]) (S := S) (xs := k.pl.map pd) (fun x => match x with | .tup (a :: _) => a | _ => .non) rfl (by have := o.pz; rw [List.length_map]; omega) fun y m => by
    obtain ⟨q, mq, rfl⟩ := List.mem_map.mp m
    exact ⟨_, rfl, rfl, rfl⟩
  have E : (k.pl.map pd).map (fun x => match x with | .tup (a :: _) => a | _ => .non) = k.folk.map D.str := by
    unfold Bk.folk
    rw [List.map_map, List.map_map]; rfl
  rw [E] at C
  have G := gIn_ln (neg := false) (x := x) (ns := k.folk) o.folk (by decide) (sm_good x gx.1) (by have := gx.2; omega)
  simp only [Bool.false_eq_true, if_false] at G
  have T := tOf_at (e2_at (g := gIn false) (show eP 1 [.d k.d, .d x, due, .un, .un, .un] S = some (x, S) from rfl) (eL_at C) G)
  unfold tAndJ
  rw [T]
  cases h : memN x k.folk with
  | false => rfl
  | true =>
    cases x with
    | str z => rfl
    | _ => cases h
theorem in_names (o : k.ok) (gx : gd 10 x) {due : Slot} : tAndJ (tOf (e2 (gIn false) (eP 1) (eL (lComp [4] (iOf (e2 gIx (eP 0) (eC (.int 0)))) (bName 4) cYes (e2 gIx (eP 4) (eC (.int 0))))))) (tTru (e1 (gIsi .str) (eP 1))) [.d k.d, .d x, due, .un, .un, .un] S = some (memN x k.names, S) := by
  have C := lComp_map (vs := [4]) (l := iOf (e2 gIx (eP 0) (eC (.int 0)))) (bd := bName 4) (cond := cYes) (elt := e2 gIx (eP 4) (eC (.int 0))) (ρ := [.d k.d, .d x, due, .un, .un, .un]) (S := S) (xs := k.rows.map SRow.d) (fun x => match x with | .tup (a :: _) => a | _ => .non) rfl (by have := o.rz; rw [List.length_map]; omega) fun y m => by
    obtain ⟨q, mq, rfl⟩ := List.mem_map.mp m
    exact ⟨_, rfl, rfl, rfl⟩
  have E : (k.rows.map SRow.d).map (fun x => match x with | .tup (a :: _) => a | _ => .non) = k.names.map D.str := by
    unfold Bk.names
    rw [List.map_map, List.map_map]; rfl
  rw [E] at C
  have G := gIn_ln (neg := false) (x := x) (ns := k.names) o.names (by decide) (sm_good x gx.1) (by have := gx.2; omega)
  simp only [Bool.false_eq_true, if_false] at G
  have T := tOf_at (e2_at (g := gIn false) (show eP 1 [.d k.d, .d x, due, .un, .un, .un] S = some (x, S) from rfl) (eL_at C) G)
  unfold tAndJ
  rw [T]
  cases h : memN x k.names with
  | false => rfl
  | true =>
    cases x with
    | str z => rfl
    | _ => cases h
theorem strs_small {ys : List Str} (h : ∀ y ∈ ys, okS 40 y) : ∀ d ∈ ys.map D.str, sm d = true ∧ nl d = true ∧ dpt d = 0 := fun d m => by
  obtain ⟨z, mz, rfl⟩ := List.mem_map.mp m
  exact ⟨(gd_str (n := 0) (h z mz) (by decide)).1, rfl, rfl⟩
def R1 : GS := (sSeq (sSet (eTup (aC (eC (.str ("NotUsable" : Str))) (aC (eC (.str ("party" : Str))) (aC (e1 gNeg (eC (.int 1))) aN)))) (bName 2)) (sSeq (sIf (tAndJ (tOf (e2 (gIn false) (eP 1) (eL (lComp [3, 5] (iOf (e2 gIx (eP 0) (eC (.int 1)))) (bTup 2 (bCons (bName 3) (bCons (bName 5) bNil))) cYes (eV 3))))) (tTru (e1 (gIsi .str) (eP 1)))) (sSet (eCall f__law_indexes (aC (eV 0) (aC (eC (.int 0)) (aC (eV 1) aN)))) (bName 2)) sNil) (sIf (tNotJ (tTru (eCall (f__law_same 12) (aC (eHeard ("NotUsable" : Str) ("gave" : Str) ("NotUsable" : Str) ("word" : Str) ("at" : Str) (eCallX f_builds_by (aC (eV 0) (aC (eV 1) aN)))) (aC (eV 2) aN))))) (sRet (eC (.bl false))) sNil)))
def R2 : GS := (sSeq (sSet (eTup (aC (eC (.str ("NotUsable" : Str))) (aC (eC (.str ("source" : Str))) (aC (e1 gNeg (eC (.int 1))) aN)))) (bName 2)) (sSeq (sIf (tAndJ (tOf (e2 (gIn false) (eP 1) (eL (lComp [4] (iOf (e2 gIx (eP 0) (eC (.int 0)))) (bName 4) cYes (e2 gIx (eP 4) (eC (.int 0))))))) (tTru (e1 (gIsi .str) (eP 1)))) (sSet (eTup (aC (eC (.str ("gave" : Str))) (aC (eCall f__law_below (aC (e2 gIx (eP 0) (eC (.int 0))) (aC (eV 1) aN))) aN))) (bName 2)) sNil) (sRet (eCall (f__law_same 12) (aC (eHeard ("NotUsable" : Str) ("gave" : Str) ("NotUsable" : Str) ("word" : Str) ("at" : Str) (eCallX f_uses_below (aC (eV 0) (aC (eV 1) aN)))) (aC (eV 2) aN))))))
theorem r1_ok (o : k.ok) (gx : gd 10 x) : ∃ due, R1 [.d k.d, .d x, .un, .un, .un, .un] S = some (.nx [.d k.d, .d x, due, .un, .un, .un], S) := by
  have bz := o.bz
  have F1 := builds_by_ok (S := S) o gx
  have T1 : (sSet (eTup (aC (eC (.str ("NotUsable" : Str))) (aC (eC (.str ("party" : Str))) (aC (e1 gNeg (eC (.int 1))) aN)))) (bName 2)) [.d k.d, .d x, .un, .un, .un, .un] S = some (.nx [.d k.d, .d x, .d (notU "party"), .un, .un, .un], S) := set_at (i := 2) (tup3_at (S1 := S) (S2 := S) rfl rfl rfl)
  have A := in_folk (S := S) (due := .d (notU "party")) o gx
  by_cases h : memN x k.folk = true
  · rw [h] at A
    cases x with
    | str z =>
      rw [ansN_yes h] at F1
      have I := law_idx (k := k) (S := S) (z := z) (i := 0) (fun b m => ⟨_, ix_by b, (o.b b m).1.y⟩) (sm_str gx.1) bz
      have T2 : sSet (eCall f__law_indexes (aC (eV 0) (aC (eC (.int 0)) (aC (eV 1) aN)))) (bName 2) [.d k.d, .d (.str z), .d (notU "party"), .un, .un, .un] S = some (.nx [.d k.d, .d (.str z), .d (gave (.tup (idx 0 z k.bs))), .un, .un, .un], S) := set_at (i := 2) (show eCall f__law_indexes (aC (eV 0) (aC (eC (.int 0)) (aC (eV 1) aN))) [.d k.d, .d (.str z), .d (notU "party"), .un, .un, .un] S = _ from I)
      have H1 := heard_gave (ρ := [.d k.d, .d (.str z), .d (gave (.tup (idx 0 z k.bs))), .un, .un, .un]) ((callX2_at (G := f_builds_by) (f := eV 0) (g := eV 1) (S := S) rfl rfl).trans F1)
      have ix := idx_small 0 z k.bs bz
      have Q1 := same_test H1 (show eV 2 [.d k.d, .d (.str z), .d (gave (.tup (idx 0 z k.bs))), .un, .un, .un] S = some (gave (.tup (idx 0 z k.bs)), S) from rfl) (same_gave _ ix.1 ix.2)
      exact ⟨_, (seq_at T1).trans ((seq_at ((if_t A).trans T2)).trans (if_f Q1))⟩
    | _ => cases h
  · rw [show memN x k.folk = false by simpa using h] at A
    rw [ansN_no h] at F1
    have H1 := heard_ref (ρ := [.d k.d, .d x, .d (notU "party"), .un, .un, .un]) ((callX2_at (G := f_builds_by) (f := eV 0) (g := eV 1) (S := S) rfl rfl).trans F1)
    have Q1 := same_test H1 (show eV 2 [.d k.d, .d x, .d (notU "party"), .un, .un, .un] S = some (notU "party", S) from rfl) (same_notU (okw (by decide +kernel) (by decide)))
    exact ⟨_, (seq_at T1).trans ((seq_at (if_f A)).trans (if_f Q1))⟩
theorem r2_ok {due : Slot} (o : k.ok) (gx : gd 10 x) : ∃ T, R2 [.d k.d, .d x, due, .un, .un, .un] S = some (.rt (.bl true), S ++ T) := by
  have T1 : (sSet (eTup (aC (eC (.str ("NotUsable" : Str))) (aC (eC (.str ("source" : Str))) (aC (e1 gNeg (eC (.int 1))) aN)))) (bName 2)) [.d k.d, .d x, due, .un, .un, .un] S = some (.nx [.d k.d, .d x, .d (notU "source"), .un, .un, .un], S) := set_at (i := 2) (tup3_at (S1 := S) (S2 := S) rfl rfl rfl)
  have A := in_names (S := S) (due := .d (notU "source")) o gx
  rcases uses_below_ok (S := S) o gx with ⟨h, F1⟩ | ⟨z, found, rfl, hz, I, F1⟩
  · rw [h] at A
    have H1 := heard_ref (ρ := [.d k.d, .d x, .d (notU "source"), .un, .un, .un]) ((callX2_at (G := f_uses_below) (f := eV 0) (g := eV 1) (S := S) rfl rfl).trans F1)
    have E := (call2_at (G := f__law_same 12) H1 (show eV 2 [.d k.d, .d x, .d (notU "source"), .un, .un, .un] S = some (notU "source", S) from rfl)).trans (same_notU (okw (by decide +kernel) (by decide)))
    exact ⟨[], by rw [List.append_nil]; exact (seq_at T1).trans ((seq_at (if_f A)).trans (ret_at E))⟩
  · rw [show memN (.str z) k.names = true from decide_eq_true hz] at A
    obtain ⟨fl, L, IL⟩ := law_below_ok (S := S) o.tr hz fun r mr => ⟨(o.r r mr).n, (o.r r mr).uk, (o.r r mr).uz⟩
    have E : srt fl = srt found := by
      rw [← nub_id IL.nd, ← nub_id I.nd]
      exact srt_nub_eq fun y => (IL.mem y).trans (I.mem y).symm
    rw [E] at L
    have T2 := set_at (i := 2) (tup2_at (show eC (.str ("gave" : Str)) [.d k.d, .d (.str z), .d (notU "source"), .un, .un, .un] S = some (.str "gave", S) from rfl) ((call2_at (G := f__law_below) (f := e2 gIx (eP 0) (eC (.int 0))) (g := eV 1) (S := S) rfl rfl).trans L))
    have H1 := heard_gave (ρ := [.d k.d, .d (.str z), .d (gave (.tup ((srt found).map D.str))), .un, .un, .un]) ((callX2_at (G := f_uses_below) (f := eV 0) (g := eV 1) (S := S) rfl rfl).trans F1)
    have lf := len_in o.tr I.nd I.fn
    have lz := o.rz
    have ss := strs_small (ys := srt found) fun y my => o.names y (I.fn y ((srt_perm _).mem_iff.mp my))
    have E := (call2_at (G := f__law_same 12) H1 (show eV 2 [.d k.d, .d (.str z), .d (gave (.tup ((srt found).map D.str))), .un, .un, .un] (S ++ [useOb k.rows, fOb found]) = some (gave (.tup ((srt found).map D.str)), S ++ [useOb k.rows, fOb found]) from rfl)).trans (same_gave _ (by rw [List.length_map, (srt_perm _).length_eq]; omega) ss)
    exact ⟨_, (seq_at T1).trans ((seq_at ((if_t A).trans T2)).trans (ret_at E))⟩
theorem seq_assoc (a b c : GS) : sSeq (sSeq a b) c = sSeq a (sSeq b c) := by
  funext ρ S
  unfold sSeq
  cases a ρ S with
  | none => rfl
  | some p =>
    obtain ⟨q, S1⟩ := p
    cases q <;> rfl
theorem by_right_ok (o : k.ok) (gx : gd 10 x) : ∃ T, f__law_by_right [k.d, x] S = some (.bl true, S ++ T) := by
  obtain ⟨due, h1⟩ := r1_ok (S := S) o gx
  obtain ⟨T, h2⟩ := r2_ok (S := S) (due := due) o gx
  refine ⟨T, run_at (S1 := S ++ T) ?_⟩
  have E : g__law_by_right = sSeq R1 R2 := by
    unfold R1
    rw [seq_assoc, seq_assoc]
    rfl
  rw [E]
  exact (seq_at h1).trans h2
end
end K04

set_option maxHeartbeats 4000000
namespace K04
open PySem PySem.Spec PyProof.Rows L2 J
theorem feed_ok {ns : List Int} (h : ns.length ≤ 63) : ∃ S', f__law_feed [.frz (ns.map D.int)] [] = some (.obj 0, S') ∧ Fd 0 S' := by
  have L : iOf (eSl (eP 0) oN (oS (eC (.int 63)))) [.d (.frz (ns.map D.int)), .un] [] = some (J.cutD (ns.map D.int) none (some 63), []) := by
    simp only [runDef, sSeq, sNil, sRet, sIf, sSet, sSetL, sExt, sApp, sPar, sFreeze, sDrop, eC, eV, eP, e1, e2, l2, eL, aN, aC, aG, aGL, tOf, tAndJ, tOrJ, tNotJ, eAnd, eOr, eNot, eIf, eCh, tTru, gTru, eTup, lDisp, iOf, J.items?, iRg1, iRg2, cYes, bName, bTup, bCons, bNil, mN, mD, mO, setsS, eCall, gIsi, gIsi2, isT_tt, gLen, gI0, gLe_i, gGe_i, gGt_i, gLt_i, gAdd_i,  gListL, gTuple, eSl, oN, oS, List.map_cons, List.map_nil, List.map, List.replicate, List.length_cons, List.length_nil, List.nil_append, List.cons_append, List.append_nil, List.set_cons_zero, List.set_cons_succ, List.set, List.length, List.getElem?_cons_zero, List.getElem?_cons_succ, Nat.sub, Nat.reduceSub, Nat.reduceAdd, Nat.reduceLT, Nat.reduceLeDiff, List.getElem?_nil, Bool.false_eq_true, if_true, if_false, Bool.true_and, Bool.false_and, Bool.and_true, Bool.and_false, Bool.not_true, Bool.not_false, Bool.true_or, Bool.or_true, Bool.or_false, Bool.false_or, wipeE, gSl]
  have lc := cutD_len (xs := ns.map D.int) (lo := none) (hi := some 63)
  rw [List.length_map] at lc
  obtain ⟨ys, C, o, l⟩ := lComp_some (P := fun d => ∃ i, d = D.int i) (vs := [1]) (bd := bName 1) (cond := cYes) (elt := aG gInt (aC (eP 1) aN)) L (by omega) fun x mx => by
    obtain ⟨i, _, rfl⟩ := List.mem_map.mp (cutD_mem mx)
    exact ⟨_, rfl, true, rfl, fun _ => ⟨.int i, rfl, i, rfl⟩⟩
  have M : ∀ ys : List D, (∀ y ∈ ys, ∃ i, y = D.int i) → ∃ ks : List Int, ys = ks.map D.int := by
    intro ys
    induction ys with
    | nil => intro _; exact ⟨[], rfl⟩
    | cons y r ih =>
      intro h
      obtain ⟨i, rfl⟩ := h y List.mem_cons_self
      obtain ⟨ks, rfl⟩ := ih fun z m => h z (List.mem_cons_of_mem _ m)
      exact ⟨i :: ks, rfl⟩
  obtain ⟨ks, rfl⟩ := M ys o
  rw [List.length_map] at l
  refine ⟨[fob ks 0 0 0], ?_, ks, 0, 0, 0, [], rfl, by omega, by decide, by decide, by decide⟩
  refine run_at (ret_at ?_)
  unfold eDict
  simp only [dGo]
  rw [show List.map Slot.d [D.frz (List.map D.int ns)] ++ List.replicate (2 - [D.frz (List.map D.int ns)].length) Slot.un = [.d (.frz (ns.map D.int)), .un] from rfl]
  rw [eL_at C]
  rfl
def gE (sc wh : D) (folk th src x : Slot) : J.Env := [.d sc, .d (.obj 0), .d wh, folk, th, src, x, .un, .un, .un]
theorem cat_at {f g : EX} {ρ : J.Env} {S S1 S2 : Store} {xs ys : List D} (h1 : f ρ S = some (.lst xs, S1)) (h2 : g ρ S1 = some (.lst ys, S2)) (hz : xs.length + ys.length ≤ 100000) : l2 gCatL f g ρ S = some (xs ++ ys, S2) := by
  have c : gCatL (.lst xs) (.lst ys) = some (xs ++ ys) := if_pos (by rw [sizeLine_eq]; omega)
  simp only [l2, h1, h2, c]
theorem ext_at {f : EX} {i : Nat} {ρ : J.Env} {S S1 : Store} {xs ys : List D} (h : f ρ S = some (.lst ys, S1)) (ho : ρ[i]? = some (.own xs)) (hz : xs.length + ys.length ≤ 100000) : sExt i f ρ S = some (.nx (ρ.set i (.own (xs ++ ys))), S1) := by
  unfold sExt
  simp only [ho, h]
  exact if_pos (by rw [sizeLine_eq]; omega)
theorem disp_at {r : EL} {ρ : J.Env} {S S1 : Store} {xs : List D} (h : r ρ S = some (xs, S1)) (hz : xs.length ≤ 1000) : eL (lDisp r) ρ S = some (.lst xs, S1) := by
  refine eL_at ?_
  unfold lDisp
  rw [h]
  exact if_pos (by rw [sizeLine_eq]; omega)
theorem listof_at {f : EX} {ρ : J.Env} {S S1 : Store} {xs : List D} (h : f ρ S = some (.tup xs, S1)) : eL (aGL gListL (aC f aN)) ρ S = some (.lst xs, S1) := by
  simp only [eL, aGL, aC, aN, h, gListL]
section
variable {k : Bk} {S S' : Store} {x sc : D} {B : Int}
theorem Bk.ok.gd {k : Bk} (o : k.ok) : K04.gd 10 k.d := by
  have a : ∀ {xs : List D}, (∀ x ∈ xs, tg 2 x) → xs.length ≤ 100 → K04.gd 3 (.tup xs) := fun {xs} hx lx => gd_tup (n := 2) (by omega) fun x mx => by obtain ⟨_, _, g⟩ := hx x mx; exact g
  have rz := o.rz
  have pz := o.pz
  have bz := o.bz
  refine (gd_tup (n := 3) (by simp) fun x m => ?_).mono (by decide)
  simp only [List.mem_cons, List.not_mem_nil, or_false] at m
  rcases m with rfl | rfl | rfl | rfl
  · exact a (fun d md => by obtain ⟨r, mr, rfl⟩ := List.mem_map.mp md; exact (srow_of (o.r r mr)).tg) (by rw [List.length_map]; omega)
  · exact a (fun d md => by obtain ⟨q, mq, rfl⟩ := List.mem_map.mp md; exact prow.tg ⟨q.1, q.2, rfl, o.p q mq⟩) (by rw [List.length_map]; omega)
  · exact a o.g o.gz
  · exact a (fun d md => by obtain ⟨b, mb, rfl⟩ := List.mem_map.mp md; exact Bld.tg (o.b b mb).1) (by rw [List.length_map]; omega)
def G3 : GS := sSet (eL (lComp [8, 9] (iOf (e2 gIx (eP 2) (eC (.int 1)))) (bTup 2 (bCons (bName 8) (bCons (bName 9) bNil))) cYes (eV 8))) (bName 3)
def G4 : GS := sIf (tNotJ (tTru (eCall (f__law_same 12) (aC (eCall f_files_of (aC (eV 2) aN)) (aC (eCall f__law_files (aC (eV 2) aN)) aN))))) (sRet (eC (.bl false))) sNil
def G5 : GS := sSetL 4 (l2 gCatL (eL (l2 gCatL (eP 3) (eL (aGL gListL (aC (eCall f__law_files (aC (eV 2) aN)) aN))))) (eL (lComp [5] (iOf (e2 gIx (eP 2) (eC (.int 0)))) (bName 5) cYes (e2 gIx (eP 5) (eC (.int 0))))))
def G6b : GS := sExt 4 (eL (l2 gCatL (eL (lDisp (aC (e2 gIx (eP 5) (eC (.int 1))) aN))) (eL (aGL gListL (aC (e2 gIx (eP 5) (eC (.int 2))) aN)))))
def G7 : GS := sExt 4 (eL (l2 gCatL (eL (lComp [7] (iRg1 (aC (eC (.int 8)) aN)) (bName 7) cYes (eCall f__law_odd (aC (eV 1) aN)))) (eL (lDisp (aC (eC (.str ("zzzzzzzz" : Str))) (aC (eC .non) (aC (eV 2) (aC (aG gTuple (aC (eP 3) aN)) aN))))))))
def G8b : GS := sIf (tOrJ (tNotJ (tTru (eCall f__law_by_right (aC (eV 2) (aC (eV 6) aN))))) (tNotJ (tTru (eCall f__law_name_right (aC (eV 2) (aC (eV 6) aN)))))) (sRet (eC (.bl false))) sNil
theorem g3_ok (o : k.ok) : G3 (gE sc k.d .un .un .un .un) S = some (.nx (gE sc k.d (.d (.lst (k.folk.map D.str))) .un .un .un), S) := by
  have C := lComp_map (vs := [8, 9]) (l := iOf (e2 gIx (eP 2) (eC (.int 1)))) (bd := bTup 2 (bCons (bName 8) (bCons (bName 9) bNil))) (cond := cYes) (elt := eV 8) (ρ := gE sc k.d .un .un .un .un) (S := S) (xs := k.pl.map pd) (fun x => match x with | .tup (a :: _) => a | _ => .non) rfl (by have := o.pz; rw [List.length_map]; omega) fun y m => by
    obtain ⟨q, mq, rfl⟩ := List.mem_map.mp m
    exact ⟨_, rfl, rfl, rfl⟩
  have E : (k.pl.map pd).map (fun x => match x with | .tup (a :: _) => a | _ => .non) = k.folk.map D.str := by
    unfold Bk.folk
    rw [List.map_map, List.map_map]; rfl
  rw [E] at C
  exact set_at (i := 3) (eL_at C)
def fl (k : Bk) : List Str := srt (nub (k.bs.flatMap Bld.fs))
theorem fl_ok (o : k.ok) : ∀ z ∈ fl k, okS 40 z := fun z m => by
  obtain ⟨b, mb, mx⟩ := List.mem_flatMap.mp (nub_mem.mp ((srt_perm _).mem_iff.mp m))
  exact Bld.fs_ok (o.b b mb).1 z mx
theorem fl_len (o : k.ok) : (fl k).length ≤ 140 := by
  have l := flat_len (f := Bld.fs) (k := 7) k.bs fun b m => Bld.fs_len (o.b b m).1
  have n := nub_len (k.bs.flatMap Bld.fs)
  have bz := o.bz
  unfold fl
  rw [(srt_perm _).length_eq]
  omega
theorem same_strs {ys : List Str} (h : ∀ y ∈ ys, okS 40 y) (hz : ys.length ≤ 5000) : f__law_same 12 [.tup (ys.map D.str), .tup (ys.map D.str)] S = some (.bl true, S) := by
  have ss := strs_small h
  refine same_ok S 11 _ ?_ ?_ ?_
  · rw [sm, Bool.and_eq_true, decide_eq_true_eq, List.length_map]; exact ⟨hz, (sms_all _).mpr fun x m => (ss x m).1⟩
  · rw [nl]; exact (nls_all _).mpr fun x m => (ss x m).2.1
  · rw [dpt]
    have := (dpts_le (n := 0) (ys.map D.str)).mpr fun x m => by rw [(ss x m).2.2]; exact Nat.le_refl _
    omega
theorem g4_ok (o : k.ok) {f : Slot} : G4 (gE sc k.d f .un .un .un) S = some (.nx (gE sc k.d f .un .un .un), S) := by
  have F1 := files_of_ok (rs := k.rows.map SRow.d) (ps := k.pl.map pd) (prs := k.prs) (S := S) (fun b m => (o.b b m).1) o.bz
  have F2 := law_files_ok (rs := k.rows.map SRow.d) (ps := k.pl.map pd) (prs := k.prs) (S := S) o.b o.lz o.bz
  rw [show srt (nub (k.bs.flatMap Bld.fs)) = fl k from rfl] at F1 F2
  have Q := same_test ((call1_at (G := f_files_of) (f := eV 2) (ρ := gE sc k.d f .un .un .un) (S := S) rfl).trans F1) ((call1_at (G := f__law_files) (f := eV 2) (ρ := gE sc k.d f .un .un .un) (S := S) rfl).trans F2) (same_strs (fl_ok o) (by have := fl_len o; omega))
  exact (if_f Q).trans rfl
theorem gd_s {ys : List Str} (h : ∀ y ∈ ys, okS 40 y) : ∀ d ∈ ys.map D.str, gd 10 d := fun d m => by
  obtain ⟨z, mz, rfl⟩ := List.mem_map.mp m
  exact gd_str (h z mz) (by decide)
theorem folk_len (o : k.ok) : k.folk.length ≤ 10 := by unfold Bk.folk; rw [List.length_map]; exact o.pz
theorem names_len (o : k.ok) : k.names.length ≤ 10 := by unfold Bk.names; rw [List.length_map]; exact o.rz
theorem g5_ok (o : k.ok) : ∃ th : List D, G5 (gE sc k.d (.d (.lst (k.folk.map D.str))) .un .un .un) S = some (.nx (gE sc k.d (.d (.lst (k.folk.map D.str))) (.own th) .un .un), S) ∧ (∀ x ∈ th, gd 10 x) ∧ th.length ≤ 200 := by
  have F2 := law_files_ok (rs := k.rows.map SRow.d) (ps := k.pl.map pd) (prs := k.prs) (S := S) o.b o.lz o.bz
  rw [show srt (nub (k.bs.flatMap Bld.fs)) = fl k from rfl] at F2
  have a1 : eP 3 (gE sc k.d (.d (.lst (k.folk.map D.str))) .un .un .un) S = some (.lst (k.folk.map D.str), S) := rfl
  have a2 := listof_at ((call1_at (G := f__law_files) (f := eV 2) (ρ := gE sc k.d (.d (.lst (k.folk.map D.str))) .un .un .un) (S := S) rfl).trans F2)
  have C := lComp_map (vs := [5]) (l := iOf (e2 gIx (eP 2) (eC (.int 0)))) (bd := bName 5) (cond := cYes) (elt := e2 gIx (eP 5) (eC (.int 0))) (ρ := gE sc k.d (.d (.lst (k.folk.map D.str))) .un .un .un) (S := S) (xs := k.rows.map SRow.d) (fun x => match x with | .tup (a :: _) => a | _ => .non) rfl (by have := o.rz; rw [List.length_map]; omega) fun y m => by
    obtain ⟨q, mq, rfl⟩ := List.mem_map.mp m
    exact ⟨_, rfl, rfl, rfl⟩
  have E : (k.rows.map SRow.d).map (fun x => match x with | .tup (a :: _) => a | _ => .non) = k.names.map D.str := by
    unfold Bk.names
    rw [List.map_map, List.map_map]; rfl
  rw [E] at C
  have l1 := folk_len o
  have l2 := fl_len o
  have l3 := names_len o
  have L := cat_at (eL_at (cat_at a1 a2 (by rw [List.length_map, List.length_map]; omega))) (eL_at C) (by rw [List.length_append, List.length_map, List.length_map, List.length_map]; omega)
  refine ⟨k.folk.map D.str ++ (fl k).map D.str ++ k.names.map D.str, ?_, ?_, ?_⟩
  · unfold G5 sSetL
    rw [L]
    rfl
  · intro x m
    rcases List.mem_append.mp m with m | m
    · rcases List.mem_append.mp m with m | m
      · exact gd_s o.folk x m
      · exact gd_s (fl_ok o) x m
    · exact gd_s o.names x m
  · rw [List.length_append, List.length_append, List.length_map, List.length_map, List.length_map]; omega
theorem g6_go {f : Slot} : ∀ (rs : List SRow) (th : List D) (src : Slot), (∀ r ∈ rs, ∃ N, r.ok N) → (∀ x ∈ th, gd 10 x) → th.length + 6 * rs.length ≤ 1000 → ∃ th' src', forGo (bName 5) G6b (rs.map SRow.d) (gE sc k.d f (.own th) src .un) S = some (.nx (gE sc k.d f (.own th') src' .un), S) ∧ (∀ x ∈ th', gd 10 x) ∧ th'.length ≤ 1000
  | [], th, src, _, h, hz => ⟨th, src, rfl, h, by omega⟩
  | r :: rs, th, src, hr, h, hz => by
    obtain ⟨N, o⟩ := hr r List.mem_cons_self
    rw [List.length_cons] at hz
    have sz1 := o.sz
    have a1 : eL (lDisp (aC (e2 gIx (eP 5) (eC (.int 1))) aN)) (gE sc k.d f (.own th) (.d r.d) .un) S = some (.lst [.str r.lang], S) := disp_at rfl (by simp)
    have a2 := listof_at (show e2 gIx (eP 5) (eC (.int 2)) (gE sc k.d f (.own th) (.d r.d) .un) S = some (.tup (r.sp.map D.str), S) from rfl)
    have X := ext_at (i := 4) (eL_at (cat_at a1 a2 (by rw [List.length_map, List.length_singleton]; omega))) (show (gE sc k.d f (.own th) (.d r.d) .un)[4]? = some (.own th) from rfl) (by rw [List.length_append, List.length_map, List.length_singleton]; omega)
    have g' : ∀ x ∈ th ++ ([.str r.lang] ++ r.sp.map D.str), gd 10 x := fun x m => by
      rcases List.mem_append.mp m with m | m
      · exact h x m
      · rcases List.mem_append.mp m with m | m
        · rw [List.mem_singleton.mp m]; exact gd_str o.l (by decide)
        · exact gd_s o.s x m
    obtain ⟨th', src', g, g2, g3⟩ := g6_go (f := f) rs (th ++ ([.str r.lang] ++ r.sp.map D.str)) (.d r.d) (fun q m => hr q (List.mem_cons_of_mem _ m)) g' (by rw [List.length_append, List.length_append, List.length_singleton, List.length_map]; omega)
    refine ⟨th', src', ?_, g2, g3⟩
    rw [List.map_cons, forGo, show bName 5 r.d (gE sc k.d f (.own th) src .un) = some (gE sc k.d f (.own th) (.d r.d) .un) from rfl]
    have X' : G6b (gE sc k.d f (.own th) (.d r.d) .un) S = some (.nx (gE sc k.d f (.own (th ++ ([.str r.lang] ++ r.sp.map D.str))) (.d r.d) .un), S) := X
    simp only
    rw [X']
    exact g
theorem g7_ok (o : k.ok) {th : List D} {src : Slot} (F : Fd B S) (hB : B < 800000) (h : ∀ x ∈ th, gd 10 x) (hz : th.length ≤ 1000) : ∃ th' S', G7 (gE sc k.d (.d (.lst (k.folk.map D.str))) (.own th) src .un) S = some (.nx (gE sc k.d (.d (.lst (k.folk.map D.str))) (.own th') src .un), S') ∧ (∀ x ∈ th', gd 10 x) ∧ Fd (B + 8) S' := by
  have L8 : iRg1 (aC (eC (.int 8)) aN) (gE sc k.d (.d (.lst (k.folk.map D.str))) (.own th) src .un) S = some (ranged 0 8, S) := rg1_at (n := 8) rfl (by decide)
  obtain ⟨b8, S8, C8, o8, l8, F8⟩ := lComp_each (P := gd 3) (k := 1) (N := B + 8) (vs := [7]) (bd := bName 7) (elt := eCall f__law_odd (aC (eV 1) aN)) (by decide) L8 (by rw [ranged_len]; decide) F (by rw [ranged_len]; omega) fun x mx B' S' F' hB' => by
    obtain ⟨y, S2', e, gy, F2'⟩ := odd_ok F' (by omega)
    refine ⟨_, rfl, y, S2', ?_, gy, F2'⟩
    show f__law_odd [.obj 0] S' = _
    exact e
  rw [ranged_len] at l8 F8
  have a2 : eL (lDisp (aC (eC (.str ("zzzzzzzz" : Str))) (aC (eC .non) (aC (eV 2) (aC (aG gTuple (aC (eP 3) aN)) aN))))) (gE sc k.d (.d (.lst (k.folk.map D.str))) (.own th) src .un) S8 = some (.lst [.str "zzzzzzzz", .non, k.d, .tup (k.folk.map D.str)], S8) := by
    exact disp_at rfl (by simp)
  have X := ext_at (i := 4) (eL_at (cat_at (eL_at C8) a2 (by rw [l8]; simp))) (show (gE sc k.d (.d (.lst (k.folk.map D.str))) (.own th) src .un)[4]? = some (.own th) from rfl) (by rw [List.length_append, l8]; simp; omega)
  refine ⟨_, S8, X, fun x m => ?_, F8⟩
  rcases List.mem_append.mp m with m | m
  · exact h x m
  · rcases List.mem_append.mp m with m | m
    · exact (o8 x m).mono (by decide)
    · simp only [List.mem_cons, List.not_mem_nil, or_false] at m
      rcases m with rfl | rfl | rfl | rfl
      · exact gd_str (okw (by decide +kernel) (by decide)) (by decide)
      · exact gd_non
      · exact o.gd
      · exact gd_ts (n := 0) (strs_is o.folk) (by rw [List.length_map]; have := folk_len o; omega)
theorem g8_go (o : k.ok) {f th src : Slot} : ∀ (xs : List D) (x : Slot) (S : Store), Fd B S → (∀ y ∈ xs, gd 10 y) → ∃ x' S', forGo (bName 6) G8b xs (gE sc k.d f th src x) S = some (.nx (gE sc k.d f th src x'), S') ∧ Fd B S'
  | [], x, S, F, _ => ⟨x, S, rfl, F⟩
  | y :: ys, x, S, F, h => by
    have gy := h y List.mem_cons_self
    obtain ⟨T, h1⟩ := by_right_ok (S := S) o gy
    have h2 := name_right_ok (S := S ++ T) o gy
    obtain ⟨x', S', g, F'⟩ := g8_go o (f := f) (th := th) (src := src) ys (.d y) (S ++ T) F.more fun z m => h z (List.mem_cons_of_mem _ m)
    refine ⟨x', S', ?_, F'⟩
    have A1 : tNotJ (tTru (eCall f__law_by_right (aC (eV 2) (aC (eV 6) aN)))) (gE sc k.d f th src (.d y)) S = some (false, S ++ T) := by
      unfold tNotJ tTru
      rw [call2_at (show eV 2 (gE sc k.d f th src (.d y)) S = some (k.d, S) from rfl) (show eV 6 (gE sc k.d f th src (.d y)) S = some (y, S) from rfl), h1]; rfl
    have A2 : tNotJ (tTru (eCall f__law_name_right (aC (eV 2) (aC (eV 6) aN)))) (gE sc k.d f th src (.d y)) (S ++ T) = some (false, S ++ T) := by
      unfold tNotJ tTru
      rw [call2_at (show eV 2 (gE sc k.d f th src (.d y)) (S ++ T) = some (k.d, S ++ T) from rfl) (show eV 6 (gE sc k.d f th src (.d y)) (S ++ T) = some (y, S ++ T) from rfl), h2]; rfl
    have A : tOrJ (tNotJ (tTru (eCall f__law_by_right (aC (eV 2) (aC (eV 6) aN))))) (tNotJ (tTru (eCall f__law_name_right (aC (eV 2) (aC (eV 6) aN))))) (gE sc k.d f th src (.d y)) S = some (false, S ++ T) := by
      unfold tOrJ
      rw [A1]
      exact A2
    have G : G8b (gE sc k.d f th src (.d y)) S = some (.nx (gE sc k.d f th src (.d y)), S ++ T) := (if_f A).trans rfl
    rw [forGo, show bName 6 y (gE sc k.d f th src x) = some (gE sc k.d f th src (.d y)) from rfl]
    simp only
    rw [G]
    exact g
end
theorem law_true (ns : List Int) (h : ns.length ≤ 63) : ∃ S', f_law [.frz (ns.map D.int)] [] = some (.bl true, S') := by
  obtain ⟨S1, q1, F1⟩ := feed_ok h
  obtain ⟨rows, ps, prs, bs, bl, S2, q2, hr, nd, hp, hq, hb, lb, lr, lp, lq, lbs, F2⟩ := book_ok F1 (by decide)
  obtain ⟨pl, rfl, op⟩ := prow_list ps hp
  rw [List.length_map] at lp
  let k : Bk := ⟨rows, pl, prs, bs, bl⟩
  have o : k.ok := ⟨hr, nd, op, hq, hb, lb, lr, lp, lq, lbs⟩
  let sc : D := .frz (ns.map D.int)
  have T1 : sSet (eCall f__law_feed (aC (eV 0) aN)) (bName 1) ([.d sc] ++ List.replicate 9 .un) [] = some (.nx ([.d sc, .d (.obj 0)] ++ List.replicate 8 .un), S1) := set_at (i := 1) (show f__law_feed [sc] [] = _ from q1)
  have T2 : sSet (eCall f__law_book (aC (eV 1) aN)) (bName 2) ([.d sc, .d (.obj 0)] ++ List.replicate 8 .un) S1 = some (.nx (gE sc k.d .un .un .un .un), S2) := set_at (i := 2) (show f__law_book [.obj 0] S1 = some (k.d, S2) from q2)
  have T3 := g3_ok (sc := sc) (S := S2) o
  have T4 := g4_ok (sc := sc) (S := S2) (f := .d (.lst (k.folk.map D.str))) o
  obtain ⟨th, T5, gt, lt⟩ := g5_ok (sc := sc) (S := S2) o
  have rz := o.rz
  obtain ⟨th', src', g6, gt', lt'⟩ := g6_go (sc := sc) (k := k) (S := S2) (f := .d (.lst (k.folk.map D.str))) k.rows th .un (fun r m => ⟨_, o.r r m⟩) gt (by omega)
  have T6 := for_at (l := iOf (e2 gIx (eP 2) (eC (.int 0)))) (show iOf (e2 gIx (eP 2) (eC (.int 0))) (gE sc k.d (.d (.lst (k.folk.map D.str))) (.own th) .un .un) S2 = some (k.rows.map SRow.d, S2) from rfl) g6
  obtain ⟨th2, S7, T7, gt2, F7⟩ := g7_ok (sc := sc) (src := src') o F2 (by decide) gt' lt'
  obtain ⟨x8, S8, g8, F8⟩ := g8_go (sc := sc) (f := .d (.lst (k.folk.map D.str))) (th := .d (.lst th2)) (src := src') o th2 .un S7 F7 gt2
  have T8 := for_at (l := iOf (eV 4)) (show iOf (eV 4) (gE sc k.d (.d (.lst (k.folk.map D.str))) (.d (.lst th2)) src' .un) S7 = some (th2, S7) from rfl) g8
  obtain ⟨S9, q9⟩ := weights_ok o F8 (by decide)
  have T9 : sRet (eCall f__law_weights (aC (eV 1) (aC (eV 2) (aC (eV 3) aN)))) (gE sc k.d (.d (.lst (k.folk.map D.str))) (.d (.lst th2)) src' x8) S8 = some (.rt (.bl true), S9) := ret_at q9
  refine ⟨S9, ?_⟩
  have fz : ∀ g, sFreeze 4 g (gE sc k.d (.d (.lst (k.folk.map D.str))) (.own th2) src' .un) S7 = g (gE sc k.d (.d (.lst (k.folk.map D.str))) (.d (.lst th2)) src' .un) S7 := fun g => rfl
  exact run_at ((seq_at T1).trans ((seq_at T2).trans ((seq_at T3).trans ((seq_at T4).trans ((seq_at T5).trans ((seq_at T6).trans ((seq_at T7).trans ((fz _).trans ((seq_at T8).trans T9)))))))))
end K04

open PySem PySem.W PySem.Calls PyProof.Rows in
set_option maxRecDepth 100000 in
set_option maxHeartbeats 0 in
theorem PySem.Challenge.cw_rebuiltby_k04_parts_holds : PySem.Challenge.rw_rebuiltby_k04_parts.Holds := by
  w_on; o_law
  refine HandSHeadRun.head_any (r := OpenLaw.row PySem.Challenge.rw_rebuiltby_k04_parts) (q := view (OpenLaw.row PySem.Challenge.rw_rebuiltby_k04_parts).prog [53]) (H := K04.hk) (ob := K04.ob) (M := 3000) (loose := K04.loose) (d := HandSHeadRun.topDef (OpenLaw.row PySem.Challenge.rw_rebuiltby_k04_parts).prog 53) (kwd := []) K04.ob_eq
    (by kernel_rfl) (fun s => by kernel_rfl) K04.run (by kernel_rfl) (by kernel_rfl) (by kernel_rfl) (by rfl) (by first | assumption | decide +kernel) (by decide +kernel) ⟨rfl, rfl, rfl, rfl, rfl, by decide +kernel⟩ ?hw ?hc
  case hw => w_witness2
  case hc =>
    refine LamX.walk_ofTsE (l := PySem.Challenge.rw_rebuiltby_k04_parts) (n := 63) (k := 15) (x := "_law_script") (CX := fun _ => L2.CX0) rfl (by decide) (by kernel_rfl) ⟨rfl, by decide, by decide⟩ ?F fun _ _ _ _ _ z => z
    intro w mg fa h Y G hmg0
    obtain ⟨K, KX, c⟩ := Y
    have hmg : mg ("law" : PySem.Str) = some (.ref fa) := by
      have e : (HandSHeadRun.topDef (OpenLaw.row PySem.Challenge.rw_rebuiltby_k04_parts).prog 53).name = ("law" : PySem.Str) := by kernel_rfl
      rw [← e]
      exact hmg0
    have e2 := hmg.symm.trans (He.glo_ok KX G ((show He.SaysD K04.fa K04.fn K from congrArg (fun z : He.AlT => z.1) c.t).fact 41 (f := .glo "law") rfl))
    cases e2
    exact ⟨K, KX, K04.facts K04.law_true KX G c⟩
