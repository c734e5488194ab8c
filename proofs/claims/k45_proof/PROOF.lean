import PyProof.Rows.All
import Wide.All
import OpenK.AllK
import Wide.FinOn
import HandS.ForMost
import HandS.ForExc
import HandS.Evl
import HandS.IsInst
import HandS.Wide
import HandS.Flow
import HandS.Zip
import HandS.TryOnly
import HandS.Defaults
import HandS.More
import HandS.TupAny
import HandS.Style
import HandS.WideBits
import HandS.Deep
import PyProof.ReprRoads
import PyProof.StrLawsRepr
import KE.KTupSum
import HandS.Strs
import HandS.Iter
import KE.GoesEnum
import PyProof.Rows.IntBool
import KE.SortData
import PySem.Challenge.RW_healwires_k45_whole_views_judged
set_option Elab.async false
set_option linter.all false
set_option maxRecDepth 100000
set_option exponentiation.threshold 2000
namespace DL
open PySem PySem.Spec PyProof.Rows L2
open Evl (Ex)

/-! ### data -/
inductive D where
  | non | bl (b : Bool) | int (i : Int) | str (x : Str) | opq (v : V)
  | lst (xs : List D) | tup (xs : List D) | scr (xs : List D) | dct (kvs : List (Key × D))

abbrev Env := List (Option D)

mutual
inductive Rp (K : PySem.W.Frag) (F : Hp) : V → D → Prop
  | non : Rp K F .non .non
  | bl (b : Bool) : Rp K F (.bl b) (.bl b)
  | int (i : Int) : Rp K F (.int i) (.int i)
  | str (x : Str) : Rp K F (.str x) (.str x)
  | opq (v : V) : Rp K F v (.opq v)
  | lst {a : Addr} {xs : List V} {ds : List D} : F a = some (.lst xs) → RpA K F xs ds → Rp K F (V.ref a) (.lst ds)
  | scr {a : Addr} {xs : List V} {ds : List D} : SqL K F a xs → RpA K F xs ds → Rp K F (V.ref a) (.scr ds)
  | tup {a : Addr} {xs : List V} {ds : List D} : SqT K F a xs → RpA K F xs ds → Rp K F (V.ref a) (.tup ds)
  | dct {a : Addr} {kvs : List (Key × V)} {kds : List (Key × D)} : F a = some (.dK kvs) → RpK K F kvs kds → Rp K F (V.ref a) (.dct kds)
inductive RpA (K : PySem.W.Frag) (F : Hp) : List V → List D → Prop
  | nil : RpA K F [] []
  | cons {v : V} {vs : List V} {d : D} {ds : List D} : Rp K F v d → RpA K F vs ds → RpA K F (v :: vs) (d :: ds)
inductive RpK (K : PySem.W.Frag) (F : Hp) : List (Key × V) → List (Key × D) → Prop
  | nil : RpK K F [] []
  | cons {k : Key} {v : V} {vs : List (Key × V)} {d : D} {ds : List (Key × D)} : Rp K F v d → RpK K F vs ds → RpK K F ((k, v) :: vs) ((k, d) :: ds)
end

section
variable {K : PySem.W.Frag} {F F' G H H' : Hp}
mutual
theorem Rp.mono (e : Ex F F') : ∀ (d : D) (v : V), Rp K F v d → Rp K F' v d
  | .non, _, h => by cases h; exact .non
  | .bl b, _, h => by cases h; exact .bl b
  | .int i, _, h => by cases h; exact .int i
  | .str x, _, h => by cases h; exact .str x
  | .opq v, _, h => by cases h; exact .opq v
  | .lst ds, _, h => by
    cases h with
    | lst hs ha => exact .lst (e _ _ hs) (RpA.mono e ds _ ha)
  | .scr ds, _, h => by
    cases h with
    | scr hs ha => exact .scr (Evl.ex_l e hs) (RpA.mono e ds _ ha)
  | .tup ds, _, h => by
    cases h with
    | tup hs ha => exact .tup (Evl.ex_t e hs) (RpA.mono e ds _ ha)
  | .dct ds, _, h => by
    cases h with
    | dct hs ha => exact .dct (e _ _ hs) (RpK.mono e ds _ ha)
theorem RpA.mono (e : Ex F F') : ∀ (ds : List D) (vs : List V), RpA K F vs ds → RpA K F' vs ds
  | [], _, h => by cases h; exact .nil
  | d :: ds, _, h => by
    cases h with
    | cons h t => exact .cons (Rp.mono e d _ h) (RpA.mono e ds _ t)
theorem RpK.mono (e : Ex F F') : ∀ (ds : List (Key × D)) (vs : List (Key × V)), RpK K F vs ds → RpK K F' vs ds
  | [], _, h => by cases h; exact .nil
  | (k, d) :: ds, _, h => by
    cases h with
    | cons h t => exact .cons (Rp.mono e d _ h) (RpK.mono e ds _ t)
end
theorem Rp.up {v : V} {d : D} (e : Ex F F') (h : Rp K F v d) : Rp K F' v d := Rp.mono e d v h
theorem RpA.up {v : List V} {d : List D} (e : Ex F F') (h : RpA K F v d) : RpA K F' v d := RpA.mono e d v h
theorem RpK.up {v : List (Key × V)} {d : List (Key × D)} (e : Ex F F') (h : RpK K F v d) : RpK K F' v d := RpK.mono e d v h

theorem RpA.length : ∀ {vs : List V} {ds : List D}, RpA K F vs ds → vs.length = ds.length
  | _, _, .nil => rfl
  | _, _, .cons _ t => congrArg Nat.succ (RpA.length t)
theorem RpA.get : ∀ {vs : List V} {ds : List D} {i : Nat} {v : V}, RpA K F vs ds → vs[i]? = some v → ∃ d, ds[i]? = some d ∧ Rp K F v d
  | _, _, _, _, .nil, e => by simp at e
  | _, _, 0, _, .cons h _, e => by simp at e; subst e; exact ⟨_, rfl, h⟩
  | _, _, i + 1, _, .cons _ t, e => by
    obtain ⟨d, h1, h2⟩ := RpA.get (i := i) t (by simpa using e)
    exact ⟨d, by simpa using h1, h2⟩
theorem RpA.get' : ∀ {vs : List V} {ds : List D} {i : Nat} {d : D}, RpA K F vs ds → ds[i]? = some d → ∃ v, vs[i]? = some v ∧ Rp K F v d
  | _, _, _, _, .nil, e => by simp at e
  | _, _, 0, _, .cons h _, e => by simp at e; subst e; exact ⟨_, rfl, h⟩
  | _, _, i + 1, _, .cons _ t, e => by
    obtain ⟨d, h1, h2⟩ := RpA.get' (i := i) t (by simpa using e)
    exact ⟨d, by simpa using h1, h2⟩
theorem RpA.append : ∀ {vs ws : List V} {ds es : List D}, RpA K F vs ds → RpA K F ws es → RpA K F (vs ++ ws) (ds ++ es)
  | _, _, _, _, .nil, s => s
  | _, _, _, _, .cons h t, s => .cons h (RpA.append t s)
theorem RpA.take : ∀ {vs : List V} {ds : List D} (n : Nat), RpA K F vs ds → RpA K F (vs.take n) (ds.take n)
  | _, _, 0, _ => by simp only [List.take_zero]; exact .nil
  | _, _, _ + 1, .nil => by simp only [List.take_nil]; exact .nil
  | _, _, n + 1, .cons h t => .cons h (RpA.take n t)
theorem RpA.drop : ∀ {vs : List V} {ds : List D} (n : Nat), RpA K F vs ds → RpA K F (vs.drop n) (ds.drop n)
  | _, _, 0, h => h
  | _, _, _ + 1, .nil => by simp only [List.drop_nil]; exact .nil
  | _, _, n + 1, .cons _ t => RpA.drop n t
theorem RpA.set {v : V} {d : D} (h : Rp K F v d) : ∀ {vs : List V} {ds : List D} (i : Nat), RpA K F vs ds → RpA K F (vs.set i v) (ds.set i d)
  | _, _, _, .nil => .nil
  | _, _, 0, .cons _ t => .cons h t
  | _, _, i + 1, .cons q t => .cons q (RpA.set h i t)
theorem RpA.one {v : V} {d : D} (h : Rp K F v d) : RpA K F [v] [d] := .cons h .nil
end

/-! ### the state by data -/
structure Base where
  F0 : Hp
  H0 : Hp
  par : List (Nat × Addr)
  /-- what is kept by others, and unknown here -/
  G : Hp

inductive Held (K : PySem.W.Frag) (F : Hp) : HO → D → Prop
  | lst {xs : List V} {ds : List D} : RpA K F xs ds → Held K F (.lst xs) (.lst ds)
  | dct {kvs : List (Key × V)} {kds : List (Key × D)} : RpK K F kvs kds → Held K F (.dK kvs) (.dct kds)
theorem Held.up {K : PySem.W.Frag} {F F' : Hp} {o : HO} {d : D} (e : Ex F F') (h : Held K F o d) : Held K F' o d := by
  cases h with
  | lst h => exact .lst (h.up e)
  | dct h => exact .dct (h.up e)
theorem Held.rp {K : PySem.W.Frag} {F : Hp} {a : Addr} {o : HO} {d : D} (e : F a = some o) (h : Held K F o d) : Rp K F (V.ref a) d := by
  cases h with
  | lst h => exact .lst e h
  | dct h => exact .dct e h

structure Rep (K : PySem.W.Frag) (B : Base) (O : List Nat) (ρ : Env) (σ : L2.St) (F H : Hp) : Prop where
  sub : Ex F H
  len : ρ.length = σ.length
  dat : ∀ i d, ρ[i]? = some (some d) → i ∉ O → ∃ v, σ[i]? = some (some v) ∧ Rp K F v d
  own : ∀ i, i ∈ O → ∃ a o d, ρ[i]? = some (some d) ∧ σ[i]? = some (some (V.ref a)) ∧ H a = some o ∧ F a = none ∧ Held K F o d ∧ (B.H0 a = none ∨ ∃ p, p ∈ B.par ∧ p.2 = a)
  sep : ∀ i j a, i ∈ O → j ∈ O → σ[i]? = some (some (V.ref a)) → σ[j]? = some (some (V.ref a)) → i = j
  par : ∀ p, p ∈ B.par → p.1 ∈ O ∧ σ[p.1]? = some (some (V.ref p.2))
  f0 : Ex B.F0 F
  fresh : ∀ a, B.H0 a ≠ none → B.F0 a = none → F a = none
  keep : ∀ a o, B.H0 a = some o → (∀ p, p ∈ B.par → p.2 ≠ a) → H a = some o
  grd : ∀ a o, B.G a = some o → H a = some o ∧ F a = none ∧ ∀ j, j ∈ O → σ[j]? ≠ some (some (V.ref a))
  pz : ∀ p, p ∈ B.par → p.1 = 0
  gz : ∀ a o, B.G a = some o → B.H0 a = none

section
variable {K : PySem.W.Frag} {B : Base} {O O' : List Nat} {ρ : Env} {σ : L2.St} {F F' H H' : Hp}
theorem ne_some {a : Addr} {o : HO} (h : H a = some o) : H a ≠ none := by rw [h]; exact fun z => nomatch z
theorem some_ne {a : Addr} (h : H a ≠ none) : ∃ o, H a = some o := by
  cases e : H a with
  | none => exact absurd e h
  | some o => exact ⟨o, rfl⟩
theorem Rep.parAt (r : Rep K B O ρ σ F H) {p : Nat × Addr} (hp : p ∈ B.par) : ∃ o, H p.2 = some o ∧ F p.2 = none := by
  obtain ⟨h1, h2⟩ := r.par p hp
  obtain ⟨a, o, d, _, h3, h4, h5, _⟩ := r.own p.1 h1
  rw [h2] at h3
  have e : p.2 = a := V.ref.inj (Option.some.inj (Option.some.inj h3))
  rw [e]
  exact ⟨o, h4, h5⟩
/-- what stood at the entry stands -/
theorem Rep.there (r : Rep K B O ρ σ F H) {a : Addr} (h : B.H0 a ≠ none) : H a ≠ none := by
  by_cases hp : ∃ p, p ∈ B.par ∧ p.2 = a
  · obtain ⟨p, hp, e⟩ := hp
    obtain ⟨o, h1, _⟩ := r.parAt hp
    rw [← e]
    exact ne_some h1
  · obtain ⟨o, e⟩ := some_ne h
    exact ne_some (r.keep a o e fun p hm z => hp ⟨p, hm, z⟩)
/-- a new object, known for good -/
theorem Rep.alloc (r : Rep K B O ρ σ F H) {p : Addr} {o : HO} (hp : H p = none) : Ex F (upd F p o) ∧ Rep K B O ρ σ (upd F p o) (upd H p o) := by
  have fp : F p = none := by
    cases e : F p with
    | none => rfl
    | some u => have := r.sub p u e; rw [hp] at this; cases this
  have ex : Ex F (upd F p o) := Ex.new fp
  refine ⟨ex, fun a u e => ?_, r.len, fun i d e hi => ?_, fun i hi => ?_, r.sep, r.par, r.f0.trans ex, fun a h1 h2 => ?_, fun a u h1 h2 => ?_, fun a u h1 => ?_, r.pz, r.gz⟩
  · by_cases ha : a = p
    · subst ha; rw [upd_same] at e ⊢; exact e
    · rw [upd_ne ha] at e ⊢; exact r.sub a u e
  · obtain ⟨v, h1, h2⟩ := r.dat i d e hi
    exact ⟨v, h1, h2.up ex⟩
  · obtain ⟨a, u, d, h1, h2, h3, h4, h5, h6⟩ := r.own i hi
    have ha : a ≠ p := ne_of_none h3 hp
    exact ⟨a, u, d, h1, h2, by rw [upd_ne ha]; exact h3, by rw [upd_ne ha]; exact h4, h5.up ex, h6⟩
  · have ha : a ≠ p := fun z => r.there h1 (by rw [z]; exact hp)
    rw [upd_ne ha]
    exact r.fresh a h1 h2
  · have q := r.keep a u h1 h2
    rw [upd_ne (ne_of_none q hp)]
    exact q
  · obtain ⟨q1, q2, q3⟩ := r.grd a u h1
    rw [upd_ne (ne_of_none q1 hp), upd_ne (ne_of_none q1 hp)]
    exact ⟨q1, q2, q3⟩
/-- owned things are let go: they are data from here on -/
theorem Rep.freeze (r : Rep K B O ρ σ F H) (hs : ∀ i, i ∈ O' → i ∈ O) (hp : ∀ p, p ∈ B.par → p.1 ∈ O') : ∃ F', Ex F F' ∧ Rep K B O' ρ σ F' H ∧ ∀ b, (∀ i, i ∈ O → i ∉ O' → σ[i]? ≠ some (some (V.ref b))) → F' b = F b := by
  classical
  let S : Addr → Prop := fun a => ∃ i, i ∈ O ∧ i ∉ O' ∧ σ[i]? = some (some (V.ref a))
  let F' : Hp := fun a => if S a then H a else F a
  have e1 : ∀ a, S a → F' a = H a := fun a h => if_pos h
  have e2 : ∀ a, ¬ S a → F' a = F a := fun a h => if_neg h
  have ex : Ex F F' := fun a o e => by
    by_cases h : S a
    · rw [e1 a h]; exact r.sub a o e
    · rw [e2 a h]; exact e
  refine ⟨F', ex, ⟨fun a o e => ?_, r.len, fun i d e hi => ?_, fun i hi => ?_, fun i j a hi hj => r.sep i j a (hs i hi) (hs j hj), fun p q => ⟨hp p q, (r.par p q).2⟩, r.f0.trans ex, fun a h1 h2 => ?_, r.keep, fun a u h1 => ?_, r.pz, r.gz⟩, fun b hb => e2 b fun ⟨i, hi, hi', z⟩ => hb i hi hi' z⟩
  · by_cases h : S a
    · rw [e1 a h] at e; exact e
    · rw [e2 a h] at e; exact r.sub a o e
  · by_cases ho : i ∈ O
    · obtain ⟨a, o, d', h1, h2, h3, h4, h5, h6⟩ := r.own i ho
      rw [e] at h1
      cases h1
      have hS : S a := ⟨i, ho, hi, h2⟩
      exact ⟨V.ref a, h2, (h5.up ex).rp (by rw [e1 a hS]; exact h3)⟩
    · obtain ⟨v, h1, h2⟩ := r.dat i d e ho
      exact ⟨v, h1, h2.up ex⟩
  · obtain ⟨a, o, d, h1, h2, h3, h4, h5, h6⟩ := r.own i (hs i hi)
    have hS : ¬ S a := fun ⟨j, hj, hj', z⟩ => hj' (by rw [r.sep j i a hj (hs i hi) z h2]; exact hi)
    exact ⟨a, o, d, h1, h2, h3, by rw [e2 a hS]; exact h4, h5.up ex, h6⟩
  · have hS : ¬ S a := fun ⟨i, hi, hi', z⟩ => by
      obtain ⟨a', o, d, _, h2', _, _, _, h6⟩ := r.own i hi
      rw [z] at h2'
      cases h2'
      rcases h6 with h6 | ⟨p, hp', rfl⟩
      · exact h1 h6
      · have q := r.par p hp'
        have e := r.sep p.1 i p.2 q.1 hi q.2 z
        exact hi' (by rw [← e]; exact hp p hp')
    rw [e2 a hS]
    exact r.fresh a h1 h2
  · obtain ⟨q1, q2, q3⟩ := r.grd a u h1
    have hS : ¬ S a := fun ⟨i, hi, _, z⟩ => q3 i hi z
    exact ⟨q1, by rw [e2 a hS]; exact q2, fun j hj => q3 j (hs j hj)⟩
/-- the same owned slots in another order -/
theorem Rep.perm (r : Rep K B O ρ σ F H) (h : ∀ i, i ∈ O ↔ i ∈ O') : Rep K B O' ρ σ F H :=
  ⟨r.sub, r.len, fun i d e hi => r.dat i d e fun z => hi ((h i).mp z), fun i hi => r.own i ((h i).mpr hi), fun i j a hi hj => r.sep i j a ((h i).mpr hi) ((h j).mpr hj), fun p hp => ⟨(h _).mp (r.par p hp).1, (r.par p hp).2⟩, r.f0, r.fresh, r.keep, fun a u h1 => ⟨(r.grd a u h1).1, (r.grd a u h1).2.1, fun j hj => (r.grd a u h1).2.2 j ((h j).mpr hj)⟩, r.pz, r.gz⟩
/-- all is data for a while -/
theorem Rep.lend (r : Rep K B O ρ σ F H) : ∃ G, Ex F G ∧ Rep K ⟨G, H, [], fun _ => none⟩ [] ρ σ G H := by
  obtain ⟨G, ex, q⟩ : ∃ G, Ex F G ∧ Ex G H ∧ (∀ i d, ρ[i]? = some (some d) → ∃ v, σ[i]? = some (some v) ∧ Rp K G v d) := by
    classical
    let S : Addr → Prop := fun a => ∃ i, i ∈ O ∧ σ[i]? = some (some (V.ref a))
    let G : Hp := fun a => if S a then H a else F a
    have e1 : ∀ a, S a → G a = H a := fun a h => if_pos h
    have e2 : ∀ a, ¬ S a → G a = F a := fun a h => if_neg h
    have ex : Ex F G := fun a o e => by
      by_cases h : S a
      · rw [e1 a h]; exact r.sub a o e
      · rw [e2 a h]; exact e
    refine ⟨G, ex, fun a o e => ?_, fun i d e => ?_⟩
    · by_cases h : S a
      · rw [e1 a h] at e; exact e
      · rw [e2 a h] at e; exact r.sub a o e
    · by_cases ho : i ∈ O
      · obtain ⟨a, o, d', h1, h2, h3, h4, h5, h6⟩ := r.own i ho
        rw [e] at h1
        cases h1
        exact ⟨V.ref a, h2, (h5.up ex).rp (by rw [e1 a ⟨i, ho, h2⟩]; exact h3)⟩
      · obtain ⟨v, h1, h2⟩ := r.dat i d e ho
        exact ⟨v, h1, h2.up ex⟩
  exact ⟨G, ex, q.1, r.len, fun i d e _ => q.2 i d e, fun i hi => (nomatch hi), fun i j a hi => (nomatch hi), fun p hp => (nomatch hp), Ex.refl G, fun _ _ h => h, fun _ _ h _ => h, fun _ _ h => (nomatch h), fun _ h => (nomatch h), fun _ _ h => (nomatch h)⟩
/-- .. and owned again -/
theorem Rep.back (r : Rep K B O ρ σ F H) {G G' : Hp} {ρ' : Env} (q : Rep K ⟨G, H, [], fun _ => none⟩ [] ρ' σ G' H') : ∃ F', Ex F F' ∧ Rep K B O ρ σ F' H' := by
  classical
  let F' : Hp := fun a => if F a ≠ none then F a else if H a ≠ none then none else G' a
  have e1 : ∀ a, F a ≠ none → F' a = F a := fun a h => if_pos h
  have e2 : ∀ a, F a = none → H a ≠ none → F' a = none := fun a h1 h2 => by
    show (if F a ≠ none then F a else if H a ≠ none then none else G' a) = none
    rw [if_neg (by rw [h1]; exact fun z => z rfl), if_pos h2]
  have e3 : ∀ a, F a = none → H a = none → F' a = G' a := fun a h1 h2 => by
    show (if F a ≠ none then F a else if H a ≠ none then none else G' a) = G' a
    rw [if_neg (by rw [h1]; exact fun z => z rfl), if_neg (by rw [h2]; exact fun z => z rfl)]
  have ex : Ex F F' := fun a o e => by rw [e1 a (ne_some e)]; exact e
  have kp : ∀ a o, H a = some o → H' a = some o := fun a o e => q.keep a o e fun p hp => (nomatch hp)
  refine ⟨F', ex, fun a o e => ?_, r.len, fun i d e hi => ?_, fun i hi => ?_, r.sep, r.par, r.f0.trans ex, fun a h1 h2 => ?_, fun a o h1 h2 => kp a o (r.keep a o h1 h2), fun a u h1 => ?_, r.pz, r.gz⟩
  · by_cases hF : F a = none
    · by_cases hH : H a = none
      · rw [e3 a hF hH] at e; exact q.sub a o e
      · rw [e2 a hF hH] at e; cases e
    · rw [e1 a hF] at e; exact kp a o (r.sub a o e)
  · obtain ⟨v, h1, h2⟩ := r.dat i d e hi
    exact ⟨v, h1, h2.up ex⟩
  · obtain ⟨a, o, d, h1, h2, h3, h4, h5, h6⟩ := r.own i hi
    exact ⟨a, o, d, h1, h2, kp a o h3, e2 a h4 (ne_some h3), h5.up ex, h6⟩
  · exact e2 a (r.fresh a h1 h2) (r.there h1)
  · obtain ⟨q1, q2, q3⟩ := r.grd a u h1
    exact ⟨kp a u q1, e2 a q2 (ne_some q1), q3⟩
theorem set_some {α : Type} {l : List α} {i j : Nat} {x y : α} (h : (l.set i x)[j]? = some y) : (j = i ∧ y = x) ∨ (j ≠ i ∧ l[j]? = some y) := by
  by_cases e : j = i
  · subst e
    by_cases hl : j < l.length
    · rw [List.getElem?_set_self hl] at h
      exact .inl ⟨rfl, (Option.some.inj h).symm⟩
    · rw [List.getElem?_eq_none (by rw [List.length_set]; omega)] at h
      cases h
  · rw [List.getElem?_set_ne (Ne.symm e)] at h
    exact .inr ⟨e, h⟩
/-- a slot that is not owned is stored -/
theorem Rep.store (r : Rep K B O ρ σ F H) {i : Nat} {v : V} {d : D} (hi : i ∉ O) (h : Rp K F v d) : Rep K B O (ρ.set i (some d)) (σ.set i (some v)) F H := by
  have ne : ∀ j, j ∈ O → i ≠ j := fun j hj z => hi (by rw [z]; exact hj)
  refine ⟨r.sub, by rw [List.length_set, List.length_set]; exact r.len, fun j e he hj => ?_, fun j hj => ?_, fun j k a hj hk => ?_, fun p hp => ⟨(r.par p hp).1, ?_⟩, r.f0, r.fresh, r.keep, fun a u h1 => ⟨(r.grd a u h1).1, (r.grd a u h1).2.1, fun j hj => by rw [List.getElem?_set_ne (ne j hj)]; exact (r.grd a u h1).2.2 j hj⟩, r.pz, r.gz⟩
  · rcases set_some he with ⟨rfl, e'⟩ | ⟨nj, he⟩
    · cases e'
      refine ⟨v, ?_, h⟩
      have hl : j < σ.length := by
        rw [← r.len]
        have := (List.getElem?_eq_some_iff.mp he).1
        rw [List.length_set] at this
        exact this
      exact List.getElem?_set_self hl
    · obtain ⟨w, h1, h2⟩ := r.dat j e he hj
      exact ⟨w, by rw [List.getElem?_set_ne (Ne.symm nj)]; exact h1, h2⟩
  · obtain ⟨a, o, e, h1, h2, h3⟩ := r.own j hj
    exact ⟨a, o, e, by rw [List.getElem?_set_ne (ne j hj)]; exact h1, by rw [List.getElem?_set_ne (ne j hj)]; exact h2, h3⟩
  · rw [List.getElem?_set_ne (ne j hj), List.getElem?_set_ne (ne k hk)]
    exact r.sep j k a hj hk
  · rw [List.getElem?_set_ne (ne p.1 (r.par p hp).1)]
    exact (r.par p hp).2
/-- a slot is forgotten -/
theorem Rep.forget (r : Rep K B O ρ σ F H) {i : Nat} {x : Option V} (hi : i ∉ O) : Rep K B O (ρ.set i none) (σ.set i x) F H := by
  have ne : ∀ j, j ∈ O → i ≠ j := fun j hj z => hi (by rw [z]; exact hj)
  refine ⟨r.sub, by rw [List.length_set, List.length_set]; exact r.len, fun j e he hj => ?_, fun j hj => ?_, fun j k a hj hk => ?_, fun p hp => ⟨(r.par p hp).1, ?_⟩, r.f0, r.fresh, r.keep, fun a u h1 => ⟨(r.grd a u h1).1, (r.grd a u h1).2.1, fun j hj => by rw [List.getElem?_set_ne (ne j hj)]; exact (r.grd a u h1).2.2 j hj⟩, r.pz, r.gz⟩
  · rcases set_some he with ⟨rfl, e'⟩ | ⟨nj, he⟩
    · cases e'
    · obtain ⟨w, h1, h2⟩ := r.dat j e he hj
      exact ⟨w, by rw [List.getElem?_set_ne (Ne.symm nj)]; exact h1, h2⟩
  · obtain ⟨a, o, e, h1, h2, h3⟩ := r.own j hj
    exact ⟨a, o, e, by rw [List.getElem?_set_ne (ne j hj)]; exact h1, by rw [List.getElem?_set_ne (ne j hj)]; exact h2, h3⟩
  · rw [List.getElem?_set_ne (ne j hj), List.getElem?_set_ne (ne k hk)]
    exact r.sep j k a hj hk
  · rw [List.getElem?_set_ne (ne p.1 (r.par p hp).1)]
    exact (r.par p hp).2
/-- a slot takes a new thing of its own -/
theorem Rep.take (r : Rep K B O ρ σ F H) {i : Nat} {a : Addr} {o : HO} {d : D} (hi : i ∉ O) (hl : i < ρ.length) (ha : H a = some o) (hf : F a = none) (h : Held K F o d) (h0 : B.H0 a = none) (hg : B.G a = none) (hn : ∀ j, j ∈ O → σ[j]? ≠ some (some (V.ref a))) :
    Rep K B (i :: O) (ρ.set i (some d)) (σ.set i (some (V.ref a))) F H := by
  have ne : ∀ j, j ∈ O → i ≠ j := fun j hj z => hi (by rw [z]; exact hj)
  have hlσ : i < σ.length := by rw [← r.len]; exact hl
  refine ⟨r.sub, by rw [List.length_set, List.length_set]; exact r.len, fun j e he hj => ?_, fun j hj => ?_, fun j k b hj hk h1 h2 => ?_, fun p hp => ⟨List.mem_cons_of_mem _ (r.par p hp).1, ?_⟩, r.f0, r.fresh, r.keep, fun b u h1 => ⟨(r.grd b u h1).1, (r.grd b u h1).2.1, fun j hj => ?_⟩, r.pz, r.gz⟩
  · rcases set_some he with ⟨rfl, e'⟩ | ⟨nj, he⟩
    · exact absurd List.mem_cons_self hj
    · obtain ⟨w, h1, h2⟩ := r.dat j e he fun z => hj (List.mem_cons_of_mem _ z)
      exact ⟨w, by rw [List.getElem?_set_ne (Ne.symm nj)]; exact h1, h2⟩
  · by_cases e : j = i
    · subst e
      exact ⟨a, o, d, List.getElem?_set_self hl, List.getElem?_set_self hlσ, ha, hf, h, .inl h0⟩
    · have hj : j ∈ O := (List.mem_cons.mp hj).resolve_left e
      obtain ⟨a', o', e', h1, h2, h3⟩ := r.own j hj
      exact ⟨a', o', e', by rw [List.getElem?_set_ne (Ne.symm e)]; exact h1, by rw [List.getElem?_set_ne (Ne.symm e)]; exact h2, h3⟩
  · by_cases ej : j = i
    · by_cases ek : k = i
      · rw [ej, ek]
      · subst ej
        have hk : k ∈ O := (List.mem_cons.mp hk).resolve_left ek
        rw [List.getElem?_set_self hlσ] at h1
        cases h1
        rw [List.getElem?_set_ne (Ne.symm ek)] at h2
        exact absurd h2 (hn k hk)
    · have hj' : j ∈ O := (List.mem_cons.mp hj).resolve_left ej
      rw [List.getElem?_set_ne (Ne.symm ej)] at h1
      by_cases ek : k = i
      · rw [ek, List.getElem?_set_self hlσ] at h2
        cases h2
        exact absurd h1 (hn j hj')
      · have hk' : k ∈ O := (List.mem_cons.mp hk).resolve_left ek
        rw [List.getElem?_set_ne (Ne.symm ek)] at h2
        exact r.sep j k b hj' hk' h1 h2
  · rw [List.getElem?_set_ne (ne p.1 (r.par p hp).1)]
    exact (r.par p hp).2
  · by_cases ej : j = i
    · rw [ej, List.getElem?_set_self hlσ]
      intro z
      cases z
      rw [hg] at h1
      cases h1
    · rw [List.getElem?_set_ne (Ne.symm ej)]
      exact (r.grd b u h1).2.2 j ((List.mem_cons.mp hj).resolve_left ej)
/-- the owned thing at i changes -/
theorem Rep.change (r : Rep K B O ρ σ F H) {i : Nat} {a : Addr} {o : HO} {d : D} (hi : i ∈ O) (hs : σ[i]? = some (some (V.ref a))) (h : Held K F o d) : Rep K B O (ρ.set i (some d)) σ F (upd H a o) := by
  obtain ⟨a', o', d', g1, g2, g3, g4, g5, g6⟩ := r.own i hi
  rw [hs] at g2
  cases g2
  have hl : i < ρ.length := (List.getElem?_eq_some_iff.mp g1).1
  refine ⟨fun b u e => ?_, by rw [List.length_set]; exact r.len, fun j e he hj => ?_, fun j hj => ?_, r.sep, r.par, r.f0, r.fresh, fun b u h1 h2 => ?_, fun b u h1 => ?_, r.pz, r.gz⟩
  · rw [upd_ne (ne_of_none e g4)]
    exact r.sub b u e
  · rcases set_some he with ⟨rfl, e'⟩ | ⟨nj, he⟩
    · exact absurd hi hj
    · exact r.dat j e he hj
  · by_cases e : j = i
    · subst e
      exact ⟨a, o, d, List.getElem?_set_self hl, hs, upd_same, g4, h, g6⟩
    · obtain ⟨b, u, e', h1, h2, h3, h4⟩ := r.own j hj
      have hb : b ≠ a := fun z => e (r.sep j i a hj hi (by rw [← z]; exact h2) hs)
      exact ⟨b, u, e', by rw [List.getElem?_set_ne (Ne.symm e)]; exact h1, h2, by rw [upd_ne hb]; exact h3, h4⟩
  · have q := r.keep b u h1 h2
    have hb : b ≠ a := fun z => by
      rcases g6 with g6 | ⟨p, hp, rfl⟩
      · rw [z, g6] at h1; cases h1
      · exact h2 p hp z.symm
    rw [upd_ne hb]
    exact q
  · obtain ⟨q1, q2, q3⟩ := r.grd b u h1
    have hb : b ≠ a := fun z => q3 i hi (by rw [z]; exact hs)
    exact ⟨by rw [upd_ne hb]; exact q1, q2, q3⟩
/-- an owned slot is given up, and forgotten -/
theorem Rep.drop (r : Rep K B O ρ σ F H) {i : Nat} (hs : ∀ j, j ∈ O' ↔ j ∈ O ∧ j ≠ i) (hp : ∀ p, p ∈ B.par → p.1 ≠ i) : Rep K B O' (ρ.set i none) σ F H := by
  have hin : ∀ j, j ∈ O' → j ∈ O := fun j h => ((hs j).mp h).1
  have hne : ∀ j, j ∈ O' → j ≠ i := fun j h => ((hs j).mp h).2
  refine ⟨r.sub, by rw [List.length_set]; exact r.len, fun j d e hj => ?_, fun j hj => ?_, fun j k a hj hk => r.sep j k a (hin j hj) (hin k hk), fun p q => ⟨(hs _).mpr ⟨(r.par p q).1, hp p q⟩, (r.par p q).2⟩, r.f0, r.fresh, r.keep, fun a u h1 => ⟨(r.grd a u h1).1, (r.grd a u h1).2.1, fun j hj => (r.grd a u h1).2.2 j (hin j hj)⟩, r.pz, r.gz⟩
  · rcases set_some e with ⟨rfl, e'⟩ | ⟨nj, e⟩
    · cases e'
    · exact r.dat j d e fun z => hj ((hs j).mpr ⟨z, nj⟩)
  · obtain ⟨a, o, d, h1, h2⟩ := r.own j (hin j hj)
    exact ⟨a, o, d, by rw [List.getElem?_set_ne (Ne.symm (hne j hj))]; exact h1, h2⟩
end
end DL


namespace DL
open PySem PySem.Spec PyProof.Rows L2
open Evl (Ex)
abbrev MG := Str → Option Value

/-! ### what comes of an expression, of a statement -/
inductive R (α : Type) where
  | ok (a : α) (ρ : Env) | exc (c : Str) (d : Option D) (ρ : Env) | bad
@[simp] def R.bind {α β : Type} (r : R α) (k : α → Env → R β) : R β := match r with
  | .ok a ρ => k a ρ
  | .exc c d ρ => .exc c d ρ
  | .bad => .bad
@[simp] def lift {α : Type} (o : Option α) (ρ : Env) : R α := match o with
  | some a => .ok a ρ
  | none => .bad
inductive Out where
  | nx (ρ : Env) | rt (d : D) (ρ : Env) | bk (ρ : Env) | ct (ρ : Env) | exc (c : Str) (d : Option D) (ρ : Env) | bad
inductive R0 where
  | ok (d : D) | exc (c : Str) (d : Option D) | bad
inductive R1 where
  | ok (d c : D) | bad

/-- an exception's own dict -/
def ExcHeld (K : PySem.W.Frag) (d : Option D) (dx : Option Addr) (F H : Hp) : Prop := match d, dx with
  | some d, some dx => ∃ v, H dx = some (.xd [(("value" : Str), v)]) ∧ Rp K F v d
  | none, none => True
  | _, _ => False

section
variable (K : PySem.W.Frag) (mg : MG) (W : WX)
def GPost {α : Type} (O : List Nat) (B : Base) (F : Hp) (σ : L2.St) (r : R α) (P : α → Env → Hp → Hp → Prop) : Prop := match r with
  | .ok a ρ' => ∀ F' H', Ex F F' → Rep K B O ρ' σ F' H' → P a ρ' F' H'
  | .exc c d ρ' => ∀ cl dx F' H', mg c = some cl → Ex F F' → Rep K B O ρ' σ F' H' → ExcHeld K d dx F' H' → W cl dx σ H'
  | .bad => False
def ESpec (O : List Nat) (f : Env → R D) : TE := fun σ H Q => ∃ B ρ F, Rep K B O ρ σ F H ∧ GPost K mg W O B F σ (f ρ) (fun d _ F' H' => ∀ v, Rp K F' v d → Q v H')
def TSpec (O : List Nat) (f : Env → R Bool) : TT := fun σ H Q => ∃ B ρ F, Rep K B O ρ σ F H ∧ GPost K mg W O B F σ (f ρ) (fun b _ _ H' => Q b H')
def ASpec (O : List Nat) (f : Env → R (List D)) : TA := fun σ H Q => ∃ B ρ F, Rep K B O ρ σ F H ∧ GPost K mg W O B F σ (f ρ) (fun ds _ F' H' => ∀ vs, RpA K F' vs ds → Q vs H')
/-- a new thing that nobody else knows -/
def Mine (O : List Nat) (B : Base) (σ : L2.St) (F H : Hp) (a : Addr) (o : HO) (d : D) : Prop := H a = some o ∧ F a = none ∧ Held K F o d ∧ B.H0 a = none ∧ B.G a = none ∧ ∀ j, j ∈ O → σ[j]? ≠ some (some (V.ref a))
def OSpec (O : List Nat) (f : Env → R D) : TE := fun σ H Q => ∃ B ρ F, Rep K B O ρ σ F H ∧ GPost K mg W O B F σ (f ρ) (fun d _ F' H' => ∀ a o, Mine K O B σ F' H' a o d → Q (V.ref a) H')
/-- what is handed back -/
def RetQ (own : Bool) (H0 F' H' : Hp) (d : D) (Q : VK) : Prop := match own with
  | false => ∀ v, Rp K F' v d → Q v H'
  | true => ∀ a o, H0 a = none → H' a = some o → F' a = none → Held K F' o d → Q (V.ref a) H'
def SPost (own : Bool) (Ol O' : List Nat) (B : Base) (F : Hp) (E : Ends) (o : Out) : Prop := match o with
  | .nx ρ' => ∀ σ' F' H', Ex F F' → Rep K B O' ρ' σ' F' H' → E.nx σ' H'
  | .rt d ρ' => ∀ σ' F' H', Ex F F' → Rep K B (B.par.map (·.1)) ρ' σ' F' H' → RetQ K own B.H0 F' H' d E.rt
  | .bk ρ' => ∀ σ' F' H', Ex F F' → Rep K B Ol ρ' σ' F' H' → E.bk σ' H'
  | .ct ρ' => ∀ σ' F' H', Ex F F' → Rep K B Ol ρ' σ' F' H' → E.ct σ' H'
  | .exc c d ρ' => ∀ O'' cl dx σ' F' H', mg c = some cl → Ex F F' → Rep K B O'' ρ' σ' F' H' → ExcHeld K d dx F' H' → W cl dx σ' H'
  | .bad => False
def SSpec (own : Bool) (Ol O O' : List Nat) (g : Env → Out) : TS := fun E σ H => ∃ B ρ F, Rep K B O ρ σ F H ∧ SPost K mg W own Ol O' B F E (g ρ)
end

section
variable {K : PySem.W.Frag} {mg : MG} {W : WX} {O O' Ol : List Nat} {B : Base} {F F1 F' H H' : Hp} {ρ ρ' : Env} {σ σ' : L2.St} {α β : Type}
theorem GPost.mono {r : R α} {P : α → Env → Hp → Hp → Prop} (h : GPost K mg W O B F σ r P) (e : Ex F F1) : GPost K mg W O B F1 σ r P := by
  cases r with
  | ok a ρ' => exact fun F' H' x r => h F' H' (e.trans x) r
  | exc c d ρ' => exact fun cl dx F' H' m x r => h cl dx F' H' m (e.trans x) r
  | bad => exact h
theorem GPost.imp {r : R α} {P P' : α → Env → Hp → Hp → Prop} (h : GPost K mg W O B F σ r P) (k : ∀ a ρ' F' H', r = .ok a ρ' → Ex F F' → Rep K B O ρ' σ F' H' → P a ρ' F' H' → P' a ρ' F' H') : GPost K mg W O B F σ r P' := by
  cases r with
  | ok a ρ' => exact fun F' H' x r => k a ρ' F' H' rfl x r (h F' H' x r)
  | exc c d ρ' => exact h
  | bad => exact h
theorem GPost.bind {r : R α} {k : α → Env → R β} {P : β → Env → Hp → Hp → Prop} (h : GPost K mg W O B F σ (r.bind k) P) :
    GPost K mg W O B F σ r (fun a ρ' F' _ => GPost K mg W O B F' σ (k a ρ') P) := by
  cases r with
  | ok a ρ' => exact fun F' H' x r => GPost.mono h x
  | exc c d ρ' => exact h
  | bad => exact h
theorem SPost.mono {own : Bool} {E : Ends} {o : Out} (h : SPost K mg W own Ol O' B F E o) (e : Ex F F1) : SPost K mg W own Ol O' B F1 E o := by
  cases o with
  | nx ρ' => exact fun σ' F' H' x r => h σ' F' H' (e.trans x) r
  | rt d ρ' => exact fun σ' F' H' x r => h σ' F' H' (e.trans x) r
  | bk ρ' => exact fun σ' F' H' x r => h σ' F' H' (e.trans x) r
  | ct ρ' => exact fun σ' F' H' x r => h σ' F' H' (e.trans x) r
  | exc c d ρ' => exact fun O'' cl dx σ' F' H' m x r => h O'' cl dx σ' F' H' m (e.trans x) r
  | bad => exact h
theorem lift_some {o : Option α} {a : α} (h : o = some a) : lift o ρ = .ok a ρ := by rw [h]; rfl

/-- H takes a new thing that nobody knows -/
theorem Rep.laid (r : Rep K B O ρ σ F H) {p : Addr} {o : HO} (hp : H p = none) : Rep K B O ρ σ F (upd H p o) ∧ F p = none ∧ B.H0 p = none ∧ B.G p = none ∧ ∀ j, j ∈ O → σ[j]? ≠ some (some (V.ref p)) := by
  have fp : F p = none := by
    cases e : F p with
    | none => rfl
    | some u => have := r.sub p u e; rw [hp] at this; cases this
  have hne : ∀ a, H a ≠ none → a ≠ p := fun a h z => h (by rw [z]; exact hp)
  refine ⟨⟨fun a u e => ?_, r.len, r.dat, fun i hi => ?_, r.sep, r.par, r.f0, r.fresh, fun a u h1 h2 => ?_, fun a u h1 => ?_, r.pz, r.gz⟩, fp, ?_, ?_, fun j hj z => ?_⟩
  · have q := r.sub a u e
    rw [upd_ne (hne a (ne_some q))]
    exact q
  · obtain ⟨a, u, d, h1, h2, h3, h4⟩ := r.own i hi
    exact ⟨a, u, d, h1, h2, by rw [upd_ne (hne a (ne_some h3))]; exact h3, h4⟩
  · have q := r.keep a u h1 h2
    rw [upd_ne (hne a (ne_some q))]
    exact q
  · obtain ⟨q1, q2, q3⟩ := r.grd a u h1
    exact ⟨by rw [upd_ne (hne a (ne_some q1))]; exact q1, q2, q3⟩
  · cases e : B.H0 p with
    | none => rfl
    | some u => exact absurd hp (r.there (ne_some e))
  · cases e : B.G p with
    | none => rfl
    | some u =>
      have q := (r.grd p u e).1
      rw [hp] at q
      cases q
  · obtain ⟨a, u, d, h1, h2, h3, h4⟩ := r.own j hj
    rw [z] at h2
    cases h2
    rw [hp] at h3
    cases h3
/-- .. and it is known -/
theorem Rep.adopt (r : Rep K B O ρ σ F H) {a : Addr} {o : HO} {d : D} (m : Mine K O B σ F H a o d) : Ex F (upd F a o) ∧ Rep K B O ρ σ (upd F a o) H ∧ Rp K (upd F a o) (V.ref a) d := by
  obtain ⟨m1, m2, m3, m4, m6, m5⟩ := m
  have ex : Ex F (upd F a o) := Ex.new m2
  refine ⟨ex, ⟨fun b u e => ?_, r.len, fun i d e hi => ?_, fun i hi => ?_, r.sep, r.par, r.f0.trans ex, fun b h1 h2 => ?_, r.keep, fun b u h1 => ?_, r.pz, r.gz⟩, (m3.up ex).rp upd_same⟩
  · by_cases hb : b = a
    · subst hb; rw [upd_same] at e; cases e; exact m1
    · rw [upd_ne hb] at e; exact r.sub b u e
  · obtain ⟨v, h1, h2⟩ := r.dat i d e hi
    exact ⟨v, h1, h2.up ex⟩
  · obtain ⟨b, u, d, h1, h2, h3, h4, h5, h6⟩ := r.own i hi
    have hb : b ≠ a := fun z => m5 i hi (by rw [← z]; exact h2)
    exact ⟨b, u, d, h1, h2, h3, by rw [upd_ne hb]; exact h4, h5.up ex, h6⟩
  · have hb : b ≠ a := fun z => h1 (by rw [z]; exact m4)
    rw [upd_ne hb]
    exact r.fresh b h1 h2
  · obtain ⟨q1, q2, q3⟩ := r.grd b u h1
    have hb : b ≠ a := fun z => by rw [z, m6] at h1; cases h1
    exact ⟨q1, by rw [upd_ne hb]; exact q2, q3⟩
end

/-! ### the judgements -/
structure DE (X : Cx) (W : WX) (O : List Nat) (e : Expr) (f : Env → R D) : Prop where
  pe : PE X e (ESpec X.K X.mg W O f)
structure DO (X : Cx) (W : WX) (O : List Nat) (e : Expr) (f : Env → R D) : Prop where
  pe : PE X e (OSpec X.K X.mg W O f)
structure DT (X : Cx) (W : WX) (O : List Nat) (e : Expr) (f : Env → R Bool) : Prop where
  pt : PT X e (TSpec X.K X.mg W O f)
structure DA (X : Cx) (W : WX) (O : List Nat) (es : List Expr) (f : Env → R (List D)) : Prop where
  pa : PA X es (ASpec X.K X.mg W O f)
structure DS (X : Cx) (W : WX) (own : Bool) (Ol O : List Nat) (st : Stmt) (O' : List Nat) (g : Env → Out) : Prop where
  ps : PS X st (SSpec X.K X.mg W own Ol O O' g)
structure DSs (X : Cx) (W : WX) (own : Bool) (Ol O : List Nat) (st : List Stmt) (O' : List Nat) (g : Env → Out) : Prop where
  pss : PSs X st (SSpec X.K X.mg W own Ol O O' g)

section
variable {X : Cx}
theorem pe_imp {e : Expr} {t t' : TE} (h : PE X e t) (k : ∀ σ H Q, t' σ H Q → t σ H Q) : PE X e t' := ⟨fun pins s σ H Q I q => h.run pins s σ H Q I (k σ H Q q)⟩
theorem pt_imp {e : Expr} {t t' : TT} (h : PT X e t) (k : ∀ σ H Q, t' σ H Q → t σ H Q) : PT X e t' := ⟨fun pins s σ H Q I q => h.run pins s σ H Q I (k σ H Q q)⟩
theorem pw_imp {e : Expr} {t t' : TT} (h : PW X e t) (k : ∀ σ H Q, t' σ H Q → t σ H Q) : PW X e t' := ⟨fun wh pins s σ H Q I q => h.run wh pins s σ H Q I (k σ H Q q)⟩
theorem pa_imp {es : List Expr} {t t' : TA} (h : PA X es t) (k : ∀ σ H Q, t' σ H Q → t σ H Q) : PA X es t' := ⟨fun pos pins s σ H Q I q => h.run pos pins s σ H Q I (k σ H Q q)⟩
theorem ps_imp {e : Stmt} {t t' : TS} (h : PS X e t) (k : ∀ E σ H, t' E σ H → t E σ H) : PS X e t' := ⟨fun pins s σ H E I q => h.run pins s σ H E I (k E σ H q)⟩
theorem pss_imp {e : List Stmt} {t t' : TS} (h : PSs X e t) (k : ∀ E σ H, t' E σ H → t E σ H) : PSs X e t' := ⟨fun pins s σ H E I q => h.run pins s σ H E I (k E σ H q)⟩
variable {W : WX} {O : List Nat}

/-! ### names, constants -/
@[simp] def fVar (i : Nat) (ρ : Env) : R D := match ρ[i]? with
  | some (some d) => .ok d ρ
  | _ => .bad
@[simp] def fC (d : D) (ρ : Env) : R D := .ok d ρ
theorem de_var (i : Nat) {x : Str} {pos : Pos} (hi : decide (i ∈ O) = false := by rfl) (hN : X.N[i]? = some x := by rfl) (hv : Vis X.env.scope x := by first | exact Or.inl rfl | exact Or.inr (Or.inl rfl) | exact Or.inr (Or.inr rfl)) (hd : (x == ("__debug__" : Str)) = false := by decide)
    (hcd : (x == ("__classdict__" : Str)) = false := by decide) : DE X W O (.Name x pos) (fVar i) := by
  refine ⟨pe_imp (pe_var hN hv hd hcd) fun σ H Q h => ?_⟩
  obtain ⟨B, ρ, F, r, p⟩ := h
  unfold fVar at p
  split at p
  · next d e =>
    obtain ⟨v, h1, h2⟩ := r.dat i d e (of_decide_eq_false hi)
    exact ⟨v, h1, p F H (Ex.refl F) r v h2⟩
  · exact p.elim
theorem espec_c {v : V} {d : D} (h : ∀ F, Rp X.K F v d) {σ : L2.St} {H : Hp} {Q : VK} (p : ESpec X.K X.mg W O (fC d) σ H Q) : tC v σ H Q := by
  obtain ⟨B, ρ, F, r, p⟩ := p
  exact p F H (Ex.refl F) r v (h F)
theorem de_int {i : Int} {j pos} : DE X W O (.Constant (.int i) j pos) (fC (.int i)) := ⟨pe_imp pe_int fun _ _ _ p => espec_c (fun _ => .int i) p⟩
theorem de_bl {b : Bool} {j pos} : DE X W O (.Constant (.bool b) j pos) (fC (.bl b)) := ⟨pe_imp pe_bl fun _ _ _ p => espec_c (fun _ => .bl b) p⟩
theorem de_non {j pos} : DE X W O (.Constant .none j pos) (fC .non) := ⟨pe_imp pe_non fun _ _ _ p => espec_c (fun _ => .non) p⟩
theorem de_str {x : Str} {j pos} : DE X W O (.Constant (.str x) j pos) (fC (.str x)) := ⟨pe_imp pe_str fun _ _ _ p => espec_c (fun _ => .str x) p⟩
/-- a def or class of the module, as a value -/
theorem de_glob {x : Str} {a : Addr} {pos : Pos} (hm : X.mg x = some (.ref a)) (hg : Gl X x := by rfl) (hd : (x == ("__debug__" : Str)) = false := by decide) : DE X W O (.Name x pos) (fC (.opq (V.ref a))) :=
  ⟨pe_imp (pe_glob (v := V.ref a) hg hm rfl hd) fun _ _ _ p => espec_c (fun _ => .opq _) p⟩
/-- a built-in class's name -/
theorem de_ty {x : Str} {T : String} {pos : Pos} (hm : X.mg x = none) (hv : bootBuiltins x = some (.type T)) (hg : Gl X x := by rfl) (hn : x ≠ "__name__" := by decide) (hd : (x == ("__debug__" : Str)) = false := by decide) : DE X W O (.Name x pos) (fC (.opq (.ty T))) :=
  ⟨pe_imp (pe_bltn (v := .ty T) hg hm hv rfl hn hd) fun _ _ _ p => espec_c (fun _ => .opq _) p⟩

/-! ### operations on values -/
def OpS (K : PySem.W.Frag) (r : R2) (g : D → D → Option D) : Prop :=
  ∀ (O : List Nat) (B : Base) (ρ : Env) (σ : L2.St) (F H : Hp) (x y : V) (d e z : D) (Q : VK), Rep K B O ρ σ F H → Rp K F x d → Rp K F y e → g d e = some z →
    (∀ v F' H', Ex F F' → Rep K B O ρ σ F' H' → Rp K F' v z → Q v H') → r x y H Q
def UnS (K : PySem.W.Frag) (r : V → Hp → VK → Prop) (g : D → Option D) : Prop :=
  ∀ (O : List Nat) (B : Base) (ρ : Env) (σ : L2.St) (F H : Hp) (x : V) (d z : D) (Q : VK), Rep K B O ρ σ F H → Rp K F x d → g d = some z →
    (∀ v F' H', Ex F F' → Rep K B O ρ σ F' H' → Rp K F' v z → Q v H') → r x H Q
def ClS (K : PySem.W.Frag) (r : List V → Hp → VK → Prop) (g : List D → Option D) : Prop :=
  ∀ (O : List Nat) (B : Base) (ρ : Env) (σ : L2.St) (F H : Hp) (xs : List V) (ds : List D) (z : D) (Q : VK), Rep K B O ρ σ F H → RpA K F xs ds → g ds = some z →
    (∀ v F' H', Ex F F' → Rep K B O ρ σ F' H' → Rp K F' v z → Q v H') → r xs H Q
@[simp] def fOp (g : D → D → Option D) (fa fb : Env → R D) (ρ : Env) : R D := (fa ρ).bind fun d ρ1 => (fb ρ1).bind fun e ρ2 => lift (g d e) ρ2
@[simp] def fUn (g : D → Option D) (fa : Env → R D) (ρ : Env) : R D := (fa ρ).bind fun d ρ1 => lift (g d) ρ1
@[simp] def fCl (g : List D → Option D) (fa : Env → R (List D)) (ρ : Env) : R D := (fa ρ).bind fun d ρ1 => lift (g d) ρ1
variable {fa fb fc : Env → R D}
theorem liftP {K : PySem.W.Frag} {mg : MG} {B : Base} {σ : L2.St} {F : Hp} {ρ : Env} {o : Option D} {P : D → Env → Hp → Hp → Prop} (h : GPost K mg W O B F σ (lift o ρ) P) : ∃ z, o = some z ∧ ∀ F' H', Ex F F' → Rep K B O ρ σ F' H' → P z ρ F' H' := by
  cases o with
  | none => exact h.elim
  | some z => exact ⟨z, rfl, h⟩
theorem spec_op {r : R2} {g : D → D → Option D} (s : OpS X.K r g) {σ : L2.St} {H : Hp} {Q : VK} (p : ESpec X.K X.mg W O (fOp g fa fb) σ H Q) : tOp r (ESpec X.K X.mg W O fa) (ESpec X.K X.mg W O fb) σ H Q := by
  obtain ⟨B, ρ, F, rp, p⟩ := p
  refine ⟨B, ρ, F, rp, p.bind.imp fun d ρ1 F1 H1 _ e1 rp1 p1 x hx => ?_⟩
  refine ⟨B, ρ1, F1, rp1, p1.bind.imp fun e ρ2 F2 H2 _ e2 rp2 p2 y hy => ?_⟩
  obtain ⟨z, hz, q⟩ := liftP p2
  exact s O B ρ2 σ F2 H2 x y d e z Q rp2 (hx.up e2) hy hz fun v F' H' e' r' h' => q F' H' e' r' v h'
theorem de_op {op : Operator} {r : R2} {g : D → D → Option D} {a b : Expr} {pos : Pos} (ho : OpR X (binaryOp op) r) (s : OpS X.K r g) (ha : DE X W O a fa) (hb : DE X W O b fb) : DE X W O (.BinOp a op b pos) (fOp g fa fb) :=
  ⟨pe_imp (pe_op ho ha.pe hb.pe) fun _ _ _ p => spec_op s p⟩
theorem de_cmp {op : CmpOp} {r : R2} {g : D → D → Option D} {a b : Expr} {pos : Pos} (ho : OpR X (compareOp op) r) (s : OpS X.K r g) (ha : DE X W O a fa) (hb : DE X W O b fb) (hm : behindInMarks op b = false := by first | exact nomark _ | rfl) : DE X W O (.Compare a [op] [b] pos) (fOp g fa fb) :=
  ⟨pe_imp (pe_cmpR ho ha.pe hb.pe hm) fun _ _ _ p => spec_op s p⟩
theorem de_un {op : UnaryOp} {r : V → Hp → VK → Prop} {g : D → Option D} {a : Expr} {pos : Pos} (ho : UnR X (unaryOp op) r) (s : UnS X.K r g) (ha : DE X W O a fa) : DE X W O (.UnaryOp op a pos) (fUn g fa) := by
  refine ⟨pe_imp (pe_un ho ha.pe) fun σ H Q p => ?_⟩
  obtain ⟨B, ρ, F, rp, p⟩ := p
  refine ⟨B, ρ, F, rp, p.bind.imp fun d ρ1 F1 H1 _ e1 rp1 p1 x hx => ?_⟩
  obtain ⟨z, hz, q⟩ := liftP p1
  exact s O B ρ1 σ F1 H1 x d z Q rp1 hx hz fun v F' H' e' r' h' => q F' H' e' r' v h'
theorem de_ix {r : R2} {g : D → D → Option D} {a b : Expr} {pos : Pos} (ho : IxR X r) (s : OpS X.K r g) (ha : DE X W O a fa) (hb : DE X W O b fb) (hs : PlainIx b := by intro _ _; rfl) : DE X W O (.Subscript a b pos) (fOp g fa fb) :=
  ⟨pe_imp (pe_ix ho ha.pe hb.pe hs) fun _ _ _ p => spec_op s p⟩

/-! ### tests -/
@[simp] def truD : D → Option Bool
  | .non => some false
  | .bl b => some b
  | .int i => some (i != 0)
  | .lst xs => some (!xs.isEmpty)
  | .tup xs => some (!xs.isEmpty)
  | .scr xs => some (!xs.isEmpty)
  | .str x => if x.length ≤ sizeLine then some ((x.length : Int) != 0) else none
  | _ => none
@[simp] def fTru (fa : Env → R D) (ρ : Env) : R Bool := (fa ρ).bind fun d ρ1 => lift (truD d) ρ1
@[simp] def blD : D → Option Bool
  | .bl b => some b
  | _ => none
@[simp] def fBl (fa : Env → R D) (ρ : Env) : R Bool := (fa ρ).bind fun d ρ1 => lift (blD d) ρ1
theorem liftB {α : Type} {K : PySem.W.Frag} {mg : MG} {B : Base} {σ : L2.St} {F : Hp} {ρ : Env} {o : Option α} {P : α → Env → Hp → Hp → Prop} (h : GPost K mg W O B F σ (lift o ρ) P) : ∃ z, o = some z ∧ ∀ F' H', Ex F F' → Rep K B O ρ σ F' H' → P z ρ F' H' := by
  cases o with
  | none => exact h.elim
  | some z => exact ⟨z, rfl, h⟩
theorem RpA.isEmpty {K : PySem.W.Frag} {F : Hp} {xs : List V} {ds : List D} (h : RpA K F xs ds) : xs.isEmpty = ds.isEmpty := by
  cases h <;> rfl
theorem dt_tru {a : Expr} (ha : DE X W O a fa) (he : ∀ whole, isTrue a X.env whole = (do let v ← whole; standAt a.pos; holding [v] (truthy v)) := by intro _; rfl) : DT X W O a (fTru fa) := by
  refine ⟨pt_imp (pt_truth ha.pe he) fun σ H Q p => ?_⟩
  obtain ⟨B, ρ, F, rp, p⟩ := p
  refine ⟨B, ρ, F, rp, p.bind.imp fun d ρ1 F1 H1 _ e1 rp1 p1 x hx => ?_⟩
  obtain ⟨b, hz, q⟩ := liftB p1
  refine ⟨b, ?_, q F1 H1 (Ex.refl F1) rp1⟩
  cases hx with
  | non => cases hz; rfl
  | bl c => cases hz; rfl
  | int i => cases hz; rfl
  | str z =>
    simp only [truD] at hz
    split at hz
    · next h => cases hz; exact ⟨h, rfl⟩
    · cases hz
  | opq v => cases hz
  | lst h1 h2 => cases hz; exact .inl ⟨_, SqL.of (rp1.sub _ _ h1), by rw [h2.isEmpty]⟩
  | scr h1 h2 => cases hz; exact .inl ⟨_, Evl.ex_l rp1.sub h1, by rw [h2.isEmpty]⟩
  | tup h1 h2 => cases hz; exact .inr (.inl ⟨_, Evl.ex_t rp1.sub h1, by rw [h2.isEmpty]⟩)
  | dct h1 h2 => cases hz
theorem dt_bl {a : Expr} (ha : DE X W O a fa) (he : ∀ whole, isTrue a X.env whole = (do let v ← whole; standAt a.pos; holding [v] (truthy v)) := by intro _; rfl) : DT X W O a (fBl fa) := by
  refine ⟨pt_imp (pt_val ha.pe he) fun σ H Q p => ?_⟩
  obtain ⟨B, ρ, F, rp, p⟩ := p
  refine ⟨B, ρ, F, rp, p.bind.imp fun d ρ1 F1 H1 _ e1 rp1 p1 x hx => ?_⟩
  obtain ⟨b, hz, q⟩ := liftB p1
  cases d <;> first | cases hz | skip
  cases hx
  exact ⟨_, rfl, q F1 H1 (Ex.refl F1) rp1⟩
theorem dt_cmp {op : CmpOp} {r : R2} {g : D → D → Option D} {a b : Expr} {pos : Pos} (ho : OpR X (compareOp op) r) (s : OpS X.K r g) (ha : DE X W O a fa) (hb : DE X W O b fb) (hm : behindInMarks op b = false := by first | exact nomark _ | rfl) : DT X W O (.Compare a [op] [b] pos) (fBl (fOp g fa fb)) := by
  refine ⟨pt_imp (pt_cmpR ho ha.pe hb.pe hm) fun σ H Q p => ?_⟩
  refine spec_op s ?_
  obtain ⟨B, ρ, F, rp, p⟩ := p
  refine ⟨B, ρ, F, rp, p.bind.imp fun d ρ1 F1 H1 _ e1 rp1 p1 x hx => ?_⟩
  obtain ⟨b, hz, q⟩ := liftB p1
  cases d <;> first | cases hz | skip
  cases hx
  exact ⟨_, rfl, q F1 H1 (Ex.refl F1) rp1⟩
@[simp] def fAnd (fa fb : Env → R Bool) (ρ : Env) : R Bool := (fa ρ).bind fun c ρ1 => match c with
  | true => fb ρ1
  | false => .ok false ρ1
@[simp] def fOr (fa fb : Env → R Bool) (ρ : Env) : R Bool := (fa ρ).bind fun c ρ1 => match c with
  | true => .ok true ρ1
  | false => fb ρ1
@[simp] def fNot (fa : Env → R Bool) (ρ : Env) : R Bool := (fa ρ).bind fun c ρ1 => .ok (!c) ρ1
variable {ta tb : Env → R Bool}
structure DW (X : Cx) (W : WX) (O : List Nat) (e : Expr) (f : Env → R Bool) : Prop where
  pw : PW X e (TSpec X.K X.mg W O f)
theorem dw_and1 {a : Expr} {pos : Pos} (ha : DT X W O a ta) : DW X W O (.BoolOp .And [a] pos) ta := ⟨pw_and1 ha.pt⟩
theorem dw_or1 {a : Expr} {pos : Pos} (ha : DT X W O a ta) : DW X W O (.BoolOp .Or [a] pos) ta := ⟨pw_or1 ha.pt⟩
theorem dw_and {a b : Expr} {rest : List Expr} {pos : Pos} (ha : DT X W O a ta) (hb : DW X W O (.BoolOp .And (b :: rest) pos) tb) : DW X W O (.BoolOp .And (a :: b :: rest) pos) (fAnd ta tb) := by
  refine ⟨pw_imp (pw_and ha.pt hb.pw) fun σ H Q p => ?_⟩
  obtain ⟨B, ρ, F, rp, p⟩ := p
  refine ⟨B, ρ, F, rp, p.bind.imp fun c ρ1 F1 H1 _ e1 rp1 p1 => ?_⟩
  cases c with
  | true => exact iteT ⟨B, ρ1, F1, rp1, p1⟩
  | false => exact iteF (p1 F1 H1 (Ex.refl F1) rp1)
theorem dw_or {a b : Expr} {rest : List Expr} {pos : Pos} (ha : DT X W O a ta) (hb : DW X W O (.BoolOp .Or (b :: rest) pos) tb) : DW X W O (.BoolOp .Or (a :: b :: rest) pos) (fOr ta tb) := by
  refine ⟨pw_imp (pw_or ha.pt hb.pw) fun σ H Q p => ?_⟩
  obtain ⟨B, ρ, F, rp, p⟩ := p
  refine ⟨B, ρ, F, rp, p.bind.imp fun c ρ1 F1 H1 _ e1 rp1 p1 => ?_⟩
  cases c with
  | true => exact iteT (p1 F1 H1 (Ex.refl F1) rp1)
  | false => exact iteF ⟨B, ρ1, F1, rp1, p1⟩
theorem DW.dt {e : Expr} (h : DW X W O e ta) : DT X W O e ta := ⟨h.pw.pt⟩
theorem dt_not {a : Expr} {pos : Pos} (ha : DT X W O a ta) : DT X W O (.UnaryOp .Not a pos) (fNot ta) := by
  refine ⟨pt_imp (pt_not ha.pt) fun σ H Q p => ?_⟩
  obtain ⟨B, ρ, F, rp, p⟩ := p
  exact ⟨B, ρ, F, rp, p.bind.imp fun c ρ1 F1 H1 _ e1 rp1 p1 => p1 F1 H1 (Ex.refl F1) rp1⟩
/-- .. as values -/
@[simp] def fAndV (fa fb : Env → R D) (ρ : Env) : R D := (fa ρ).bind fun d ρ1 => match d with
  | .bl true => fb ρ1
  | .bl false => .ok (.bl false) ρ1
  | _ => .bad
@[simp] def fOrV (fa fb : Env → R D) (ρ : Env) : R D := (fa ρ).bind fun d ρ1 => match d with
  | .bl true => .ok (.bl true) ρ1
  | .bl false => fb ρ1
  | _ => .bad
@[simp] def fNotV (fa : Env → R D) (ρ : Env) : R D := (fa ρ).bind fun d ρ1 => match d with
  | .bl b => .ok (.bl (!b)) ρ1
  | _ => .bad
theorem de_one {op} {a : Expr} {pos : Pos} (h : DE X W O a fa) : DE X W O (.BoolOp op [a] pos) fa := ⟨pe_one h.pe⟩
theorem de_and {a b : Expr} {rest : List Expr} {pos : Pos} (ha : DE X W O a fa) (hb : DE X W O (.BoolOp .And (b :: rest) pos) fb) : DE X W O (.BoolOp .And (a :: b :: rest) pos) (fAndV fa fb) := by
  refine ⟨pe_imp (pe_and ha.pe hb.pe) fun σ H Q p => ?_⟩
  obtain ⟨B, ρ, F, rp, p⟩ := p
  refine ⟨B, ρ, F, rp, p.bind.imp fun d ρ1 F1 H1 hq0 e1 rp1 p1 x hx => ?_⟩
  cases hx <;> first | exact p1.elim | skip
  rename_i b
  refine ⟨b, rfl, ?_⟩
  cases b with
  | true => exact iteT ⟨B, ρ1, F1, rp1, p1⟩
  | false => exact iteF (p1 F1 H1 (Ex.refl F1) rp1 _ (.bl false))
theorem de_or {a b : Expr} {rest : List Expr} {pos : Pos} (ha : DE X W O a fa) (hb : DE X W O (.BoolOp .Or (b :: rest) pos) fb) : DE X W O (.BoolOp .Or (a :: b :: rest) pos) (fOrV fa fb) := by
  refine ⟨pe_imp (pe_or ha.pe hb.pe) fun σ H Q p => ?_⟩
  obtain ⟨B, ρ, F, rp, p⟩ := p
  refine ⟨B, ρ, F, rp, p.bind.imp fun d ρ1 F1 H1 hq0 e1 rp1 p1 x hx => ?_⟩
  cases hx <;> first | exact p1.elim | skip
  rename_i b
  refine ⟨b, rfl, ?_⟩
  cases b with
  | true => exact iteT (p1 F1 H1 (Ex.refl F1) rp1 _ (.bl true))
  | false => exact iteF ⟨B, ρ1, F1, rp1, p1⟩
theorem de_not {a : Expr} {pos : Pos} (ha : DE X W O a fa) : DE X W O (.UnaryOp .Not a pos) (fNotV fa) := by
  refine ⟨pe_imp (pe_not ha.pe) fun σ H Q p => ?_⟩
  obtain ⟨B, ρ, F, rp, p⟩ := p
  refine ⟨B, ρ, F, rp, p.bind.imp fun d ρ1 F1 H1 _ e1 rp1 p1 x hx => ?_⟩
  cases d <;> first | exact p1.elim | skip
  cases hx
  exact ⟨_, rfl, p1 F1 H1 (Ex.refl F1) rp1 _ (.bl _)⟩
@[simp] def fIf (t : Env → R Bool) (fa fb : Env → R D) (ρ : Env) : R D := (t ρ).bind fun c ρ1 => match c with
  | true => fa ρ1
  | false => fb ρ1
theorem de_if {c a b : Expr} {pos : Pos} (hc : DT X W O c ta) (ha : DE X W O a fa) (hb : DE X W O b fb) : DE X W O (.IfExp c a b pos) (fIf ta fa fb) := by
  refine ⟨pe_imp (pe_ifExp hc.pt ha.pe hb.pe) fun σ H Q p => ?_⟩
  obtain ⟨B, ρ, F, rp, p⟩ := p
  refine ⟨B, ρ, F, rp, p.bind.imp fun c ρ1 F1 H1 _ e1 rp1 p1 => ?_⟩
  cases c with
  | true => exact iteT ⟨B, ρ1, F1, rp1, p1⟩
  | false => exact iteF ⟨B, ρ1, F1, rp1, p1⟩
/-- a op b op' c -/
@[simp] def fChain (g g' : D → D → Option D) (fa fb fc : Env → R D) (ρ : Env) : R D := (fa ρ).bind fun d ρ1 => (fb ρ1).bind fun e ρ2 => match g d e with
  | some (.bl true) => (fc ρ2).bind fun u ρ3 => lift (g' e u) ρ3
  | some (.bl false) => .ok (.bl false) ρ2
  | _ => .bad
theorem spec_chain {r r' : R2} {g g' : D → D → Option D} (s : OpS X.K r g) (s' : OpS X.K r' g') {σ : L2.St} {H : Hp} {Q : VK} (p : ESpec X.K X.mg W O (fChain g g' fa fb fc) σ H Q) :
    tChain r r' (ESpec X.K X.mg W O fa) (ESpec X.K X.mg W O fb) (ESpec X.K X.mg W O fc) σ H Q := by
  obtain ⟨B, ρ, F, rp, p⟩ := p
  refine ⟨B, ρ, F, rp, p.bind.imp fun d ρ1 F1 H1 _ e1 rp1 p1 x hx => ?_⟩
  refine ⟨B, ρ1, F1, rp1, p1.bind.imp fun e ρ2 F2 H2 _ e2 rp2 p2 y hy => ?_⟩
  cases hg : g d e with
  | none => rw [hg] at p2; exact p2.elim
  | some z =>
    rw [hg] at p2
    refine s O B ρ2 σ F2 H2 x y d e z _ rp2 (hx.up e2) hy hg fun v F3 H3 e3 r3 h3 => ?_
    cases z <;> first | exact p2.elim | skip
    rename_i b
    cases h3
    refine ⟨b, rfl, ?_⟩
    cases b with
    | false => exact iteF (p2 F3 H3 e3 r3 _ (.bl false))
    | true =>
      refine iteT ⟨B, ρ2, F3, r3, (GPost.bind (GPost.mono p2 e3)).imp fun u ρ4 F4 H4 _ e4 rp4 p4 w' hw => ?_⟩
      obtain ⟨z, hz, q⟩ := liftP p4
      exact s' O B ρ4 σ F4 H4 y w' e u z Q rp4 (hy.up (e3.trans e4)) hw hz fun v F' H' e' r' h' => q F' H' e' r' v h'
theorem de_chain {op op' : CmpOp} {r r' : R2} {g g' : D → D → Option D} {a b c : Expr} {pos : Pos} (ho : OpR X (compareOp op) r) (s : OpS X.K r g) (ho' : OpR X (compareOp op') r') (s' : OpS X.K r' g') (ha : DE X W O a fa) (hb : DE X W O b fb) (hc : DE X W O c fc)
    (hm : lastMarks [op, op'] [b, c] = false := by with_unfolding_all rfl) : DE X W O (.Compare a [op, op'] [b, c] pos) (fChain g g' fa fb fc) :=
  ⟨pe_imp (pe_chain ho ho' ha.pe hb.pe hc.pe hm) fun _ _ _ p => spec_chain s s' p⟩
theorem dt_chain {op op' : CmpOp} {r r' : R2} {g g' : D → D → Option D} {a b c : Expr} {pos : Pos} (ho : OpR X (compareOp op) r) (s : OpS X.K r g) (ho' : OpR X (compareOp op') r') (s' : OpS X.K r' g') (ha : DE X W O a fa) (hb : DE X W O b fb) (hc : DE X W O c fc)
    (hm : lastMarks [op, op'] [b, c] = false := by with_unfolding_all rfl) : DT X W O (.Compare a [op, op'] [b, c] pos) (fBl (fChain g g' fa fb fc)) := by
  refine ⟨pt_imp (pt_chain ho ho' ha.pe hb.pe hc.pe hm) fun σ H Q p => ?_⟩
  refine spec_chain s s' ?_
  obtain ⟨B, ρ, F, rp, p⟩ := p
  refine ⟨B, ρ, F, rp, p.bind.imp fun d ρ1 F1 H1 _ e1 rp1 p1 x hx => ?_⟩
  obtain ⟨b, hz, q⟩ := liftB p1
  cases d <;> first | cases hz | skip
  cases hx
  exact ⟨_, rfl, q F1 H1 (Ex.refl F1) rp1⟩

/-! ### arguments, displays -/
@[simp] def aNil (ρ : Env) : R (List D) := .ok [] ρ
@[simp] def aCons (f : Env → R D) (g : Env → R (List D)) (ρ : Env) : R (List D) := (f ρ).bind fun d ρ1 => (g ρ1).bind fun ds ρ2 => .ok (d :: ds) ρ2
variable {fr : Env → R (List D)}
theorem da_nil : DA X W O [] aNil := by
  refine ⟨pa_imp pa_nil fun σ H Q p => ?_⟩
  obtain ⟨B, ρ, F, rp, p⟩ := p
  exact p F H (Ex.refl F) rp [] .nil
theorem da_cons {e : Expr} {es : List Expr} (ha : DE X W O e fa) (hr : DA X W O es fr) (hs : starEach (e :: es) X.env = (false, eval e X.env) :: starEach es X.env := by rfl) : DA X W O (e :: es) (aCons fa fr) := by
  refine ⟨pa_imp (pa_cons ha.pe hr.pa hs) fun σ H Q p => ?_⟩
  obtain ⟨B, ρ, F, rp, p⟩ := p
  refine ⟨B, ρ, F, rp, p.bind.imp fun d ρ1 F1 H1 _ e1 rp1 p1 x hx => ?_⟩
  refine ⟨B, ρ1, F1, rp1, p1.bind.imp fun ds ρ2 F2 H2 _ e2 rp2 p2 xs hxs => ?_⟩
  exact p2 F2 H2 (Ex.refl F2) rp2 (x :: xs) (.cons (hx.up e2) hxs)
@[simp] def tupD (ds : List D) : Option D := if ds.length ≤ 100000 then some (.tup ds) else none
@[simp] def lstD (ds : List D) : Option D := if ds.length ≤ 100000 then some (.lst ds) else none
theorem tupD_eq {ds : List D} {z : D} (h : tupD ds = some z) : ds.length ≤ 100000 ∧ z = .tup ds := by
  unfold tupD at h
  split at h
  · next q => exact ⟨q, (Option.some.inj h).symm⟩
  · cases h
theorem lstD_eq {ds : List D} {z : D} (h : lstD ds = some z) : ds.length ≤ 100000 ∧ z = .lst ds := by
  unfold lstD at h
  split at h
  · next q => exact ⟨q, (Option.some.inj h).symm⟩
  · cases h
theorem de_tup {es : List Expr} {k pos} (h : DA X W O es fr) : DE X W O (.Tuple es k pos) (fCl tupD fr) := by
  refine ⟨pe_imp (pe_tup h.pa) fun σ H Q p => ?_⟩
  obtain ⟨B, ρ, F, rp, p⟩ := p
  refine ⟨B, ρ, F, rp, p.bind.imp fun ds ρ1 F1 H1 _ e1 rp1 p1 xs hxs => ?_⟩
  obtain ⟨z, hz, q⟩ := liftP p1
  obtain ⟨hl, rfl⟩ := tupD_eq hz
  refine ⟨Evl.sz_of (by rw [hxs.length]; exact hl), fun p hp => ?_⟩
  obtain ⟨ex, r'⟩ := rp1.alloc (o := .tup xs) hp
  exact q _ _ ex r' _ (.tup (SqT.of upd_same) (hxs.up ex))
theorem do_lst {es : List Expr} {pos} (h : DA X W O es fr) : DO X W O (.List es pos) (fCl lstD fr) := by
  refine ⟨pe_imp (pe_lst h.pa) fun σ H Q p => ?_⟩
  obtain ⟨B, ρ, F, rp, p⟩ := p
  refine ⟨B, ρ, F, rp, p.bind.imp fun ds ρ1 F1 H1 _ e1 rp1 p1 xs hxs => ?_⟩
  obtain ⟨z, hz, q⟩ := liftP p1
  obtain ⟨hl, rfl⟩ := lstD_eq hz
  refine ⟨Evl.sz_of (by rw [hxs.length]; exact hl), fun p hp => ?_⟩
  obtain ⟨r', m2, m4, m6, m5⟩ := rp1.laid (o := .lst xs) hp
  exact q _ _ (Ex.refl F1) r' _ _ ⟨upd_same, m2, .lst hxs, m4, m6, m5⟩
/-- what is one's own may be data -/
theorem DO.de {e : Expr} (h : DO X W O e fa) : DE X W O e fa := by
  refine ⟨pe_imp h.pe fun σ H Q p => ?_⟩
  obtain ⟨B, ρ, F, rp, p⟩ := p
  refine ⟨B, ρ, F, rp, ?_⟩
  cases hf : fa ρ with
  | ok d ρ' =>
    rw [hf] at p
    intro F' H' e' r' a o m
    obtain ⟨ex, r2, hv⟩ := r'.adopt m
    exact p _ H' (e'.trans ex) r2 _ hv
  | exc c d ρ' => rw [hf] at p; exact p
  | bad => rw [hf] at p; exact p
theorem de_lst {es : List Expr} {pos} (h : DA X W O es fr) : DE X W O (.List es pos) (fCl lstD fr) := (do_lst h).de

/-! ### owned things, lent for a while: scalars come back -/
@[simp] def scalD : D → Bool
  | .non => true
  | .bl _ => true
  | .int _ => true
  | .str _ => true
  | _ => false
@[simp] def fLend (f : Env → R D) (ρ : Env) : R D := match f ρ with
  | .ok d _ => if scalD d = true then .ok d ρ else .bad
  | _ => .bad
theorem Rp.scal {K : PySem.W.Frag} {F F' : Hp} {v : V} {d : D} (h : Rp K F v d) (s : scalD d = true) : Rp K F' v d := by
  cases h with
  | non => exact .non
  | bl b => exact .bl b
  | int i => exact .int i
  | str x => exact .str x
  | opq v => cases s
  | lst _ _ => cases s
  | scr _ _ => cases s
  | tup _ _ => cases s
  | dct _ _ => cases s
theorem de_lend {e : Expr} (h : DE X W [] e fa) : DE X W O e (fLend fa) := by
  refine ⟨pe_imp h.pe fun σ H Q p => ?_⟩
  obtain ⟨B, ρ, F, rp, p⟩ := p
  obtain ⟨G, exG, q⟩ := rp.lend
  refine ⟨_, ρ, G, q, ?_⟩
  unfold fLend at p
  cases hf : fa ρ with
  | ok d ρ' =>
    rw [hf] at p
    simp only at p
    split at p
    · next sc =>
      intro F' H' _ r' v hv
      obtain ⟨F2, ex2, r2⟩ := rp.back r'
      exact p F2 H' ex2 r2 v (hv.scal sc)
    · exact p.elim
  | exc c d ρ' => rw [hf] at p; exact p.elim
  | bad => rw [hf] at p; exact p.elim
@[simp] def fLendT (f : Env → R Bool) (ρ : Env) : R Bool := match f ρ with
  | .ok d _ => .ok d ρ
  | _ => .bad
theorem dt_lend {e : Expr} (h : DT X W [] e ta) : DT X W O e (fLendT ta) := by
  refine ⟨pt_imp h.pt fun σ H Q p => ?_⟩
  obtain ⟨B, ρ, F, rp, p⟩ := p
  obtain ⟨G, exG, q⟩ := rp.lend
  refine ⟨_, ρ, G, q, ?_⟩
  unfold fLendT at p
  cases hf : ta ρ with
  | ok d ρ' =>
    rw [hf] at p
    intro F' H' _ r'
    obtain ⟨F2, ex2, r2⟩ := rp.back r'
    exact p F2 H' ex2 r2
  | exc c d ρ' => rw [hf] at p; exact p.elim
  | bad => rw [hf] at p; exact p.elim
end
end DL


namespace DL
open PySem PySem.Spec PyProof.Rows L2
open Evl (Ex)

@[simp] def rOut {α : Type} (r : R α) (k : α → Env → Out) : Out := match r with
  | .ok a ρ => k a ρ
  | .exc c d ρ => .exc c d ρ
  | .bad => .bad
@[simp] def oSeq (o : Out) (k : Env → Out) : Out := match o with
  | .nx ρ => k ρ
  | .rt d ρ => .rt d ρ
  | .bk ρ => .bk ρ
  | .ct ρ => .ct ρ
  | .exc c d ρ => .exc c d ρ
  | .bad => .bad

section
variable {K : PySem.W.Frag} {mg : MG} {W : WX} {own : Bool} {O O' O1 Ol : List Nat} {B : Base} {F F1 F' H H' : Hp} {ρ ρ' : Env} {σ σ' : L2.St} {α β : Type} {E : Ends}
theorem SPost.val {r : R α} {k : α → Env → Out} (h : SPost K mg W own Ol O' B F E (rOut r k)) : GPost K mg W O B F σ r (fun a ρ' F' _ => SPost K mg W own Ol O' B F' E (k a ρ')) := by
  cases r with
  | ok a ρ' => exact fun F' H' x r => SPost.mono h x
  | exc c d ρ' => exact fun cl dx F' H' m x r q => h O cl dx σ F' H' m x r q
  | bad => exact h
theorem SPost.seq {o : Out} {k : Env → Out} (h : SPost K mg W own Ol O' B F E (oSeq o k)) :
    SPost K mg W own Ol O1 B F { E with nx := fun σ' H' => ∃ ρ' F', Rep K B O1 ρ' σ' F' H' ∧ SPost K mg W own Ol O' B F' E (k ρ') } o := by
  cases o with
  | nx ρ' => exact fun σ' F' H' x r => ⟨ρ', F', r, SPost.mono h x⟩
  | rt d ρ' => exact h
  | bk ρ' => exact h
  | ct ρ' => exact h
  | exc c d ρ' => exact h
  | bad => exact h
theorem SPost.ends {E' : Ends} {o : Out} (h : SPost K mg W own Ol O' B F E o) (hn : ∀ σ H, E.nx σ H → E'.nx σ H) (hr : E'.rt = E.rt) (hb : E'.bk = E.bk) (hc : E'.ct = E.ct) : SPost K mg W own Ol O' B F E' o := by
  cases o with
  | nx ρ' => exact fun σ' F' H' x r => hn _ _ (h σ' F' H' x r)
  | rt d ρ' => intro σ' F' H' x r; rw [hr]; exact h σ' F' H' x r
  | bk ρ' => intro σ' F' H' x r; rw [hb]; exact h σ' F' H' x r
  | ct ρ' => intro σ' F' H' x r; rw [hc]; exact h σ' F' H' x r
  | exc c d ρ' => exact h
  | bad => exact h
end

section
variable {X : Cx} {W : WX} {own : Bool} {O O' O1 O2 Ol : List Nat} {pos : Pos} {fa fb : Env → R D} {ta : Env → R Bool} {fr : Env → R (List D)} {g g1 g2 : Env → Out}
/-! ### blocks -/
@[simp] def sNil (ρ : Env) : Out := .nx ρ
@[simp] def sCons (g1 g2 : Env → Out) (ρ : Env) : Out := oSeq (g1 ρ) g2
theorem dss_nil : DSs X W own Ol O [] O sNil := by
  refine ⟨pss_imp pss_nil fun E σ H p => ?_⟩
  obtain ⟨B, ρ, F, rp, p⟩ := p
  exact p σ F H (Ex.refl F) rp
theorem dss_cons {st : Stmt} {rest : List Stmt} (h1 : DS X W own Ol O st O1 g1) (h2 : DSs X W own Ol O1 rest O2 g2) : DSs X W own Ol O (st :: rest) O2 (sCons g1 g2) := by
  refine ⟨pss_imp (pss_cons h1.ps h2.pss) fun E σ H p => ?_⟩
  obtain ⟨B, ρ, F, rp, p⟩ := p
  refine ⟨B, ρ, F, rp, (SPost.seq p).ends (fun σ' H' q => ?_) rfl rfl rfl⟩
  obtain ⟨ρ', F', r', q⟩ := q
  exact ⟨B, ρ', F', r', q⟩
theorem dss_one {st : Stmt} (h1 : DS X W own Ol O st O1 g1) : DSs X W own Ol O [st] O1 g1 := ⟨pss_one h1.ps⟩
/-- what is never reached -/
@[simp] def sBad (ρ : Env) : Out := .bad
theorem ds_never {st : Stmt} : DS X W own Ol O st O' sBad := by
  refine ⟨ps_imp ps_never fun E σ H p => ?_⟩
  obtain ⟨B, ρ, F, rp, p⟩ := p
  exact p
/-- owned things become data ahead of a statement, of a block -/
theorem ds_freeze {st : Stmt} (hs : ∀ i, i ∈ O1 → i ∈ O) (hz : 0 ∈ O → 0 ∈ O1) (h : DS X W own Ol O1 st O' g) : DS X W own Ol O st O' g := by
  refine ⟨ps_imp h.ps fun E σ H p => ?_⟩
  obtain ⟨B, ρ, F, rp, p⟩ := p
  obtain ⟨F', ex, r', _⟩ := rp.freeze hs fun q hq => by rw [rp.pz q hq]; exact hz (by rw [← rp.pz q hq]; exact (rp.par q hq).1)
  exact ⟨B, ρ, F', r', SPost.mono p ex⟩
theorem dss_freeze {st : List Stmt} (hs : ∀ i, i ∈ O1 → i ∈ O) (hz : 0 ∈ O → 0 ∈ O1) (h : DSs X W own Ol O1 st O' g) : DSs X W own Ol O st O' g := by
  refine ⟨pss_imp h.pss fun E σ H p => ?_⟩
  obtain ⟨B, ρ, F, rp, p⟩ := p
  obtain ⟨F', ex, r', _⟩ := rp.freeze hs fun q hq => by rw [rp.pz q hq]; exact hz (by rw [← rp.pz q hq]; exact (rp.par q hq).1)
  exact ⟨B, ρ, F', r', SPost.mono p ex⟩
/-- .. behind a block: what is owned there is data for what comes -/
theorem dss_then {st : List Stmt} (hs : ∀ i, i ∈ O1 → i ∈ O') (hz : 0 ∈ O' → 0 ∈ O1) (h : DSs X W own Ol O st O' g) : DSs X W own Ol O st O1 g := by
  refine ⟨pss_imp h.pss fun E σ H p => ?_⟩
  obtain ⟨B, ρ, F, rp, p⟩ := p
  refine ⟨B, ρ, F, rp, ?_⟩
  cases hg : g ρ with
  | nx ρ' =>
    rw [hg] at p
    intro σ' F' H' x r
    obtain ⟨F2, ex, r2, _⟩ := r.freeze hs fun q hq => by rw [r.pz q hq]; exact hz (by rw [← r.pz q hq]; exact (r.par q hq).1)
    exact p σ' F2 H' (x.trans ex) r2
  | rt d ρ' => rw [hg] at p; exact p
  | bk ρ' => rw [hg] at p; exact p
  | ct ρ' => rw [hg] at p; exact p
  | exc c d ρ' => rw [hg] at p; exact p
  | bad => rw [hg] at p; exact p

/-! ### statements -/
theorem ds_pass : DS X W own Ol O (.Pass pos) O sNil := by
  refine ⟨ps_imp ps_pass fun E σ H p => ?_⟩
  obtain ⟨B, ρ, F, rp, p⟩ := p
  exact p σ F H (Ex.refl F) rp
@[simp] def sBrk (ρ : Env) : Out := .bk ρ
@[simp] def sCnt (ρ : Env) : Out := .ct ρ
theorem ds_break : DS X W own O O (.Break pos) O' sBrk := by
  refine ⟨ps_imp ps_break fun E σ H p => ?_⟩
  obtain ⟨B, ρ, F, rp, p⟩ := p
  exact p σ F H (Ex.refl F) rp
theorem ds_cont : DS X W own O O (.Continue pos) O' sCnt := by
  refine ⟨ps_imp ps_continue fun E σ H p => ?_⟩
  obtain ⟨B, ρ, F, rp, p⟩ := p
  exact p σ F H (Ex.refl F) rp
@[simp] def sExpr (fa : Env → R D) (ρ : Env) : Out := rOut (fa ρ) fun _ ρ1 => .nx ρ1
theorem ds_expr {e : Expr} (he : DE X W O e fa) (hs : swapsWith e none pos.line X.env = pure false := by rfl) : DS X W own Ol O (.Expr e pos) O (sExpr fa) := by
  refine ⟨ps_imp (ps_expr he.pe hs) fun E σ H p => ?_⟩
  obtain ⟨B, ρ, F, rp, p⟩ := p
  exact ⟨B, ρ, F, rp, (SPost.val p).imp fun d ρ1 F1 H1 _ e1 rp1 p1 x hx => p1 σ F1 H1 (Ex.refl F1) rp1⟩
/-- name = e -/
@[simp] def sSet (i : Nat) (fa : Env → R D) (ρ : Env) : Out := rOut (fa ρ) fun d ρ1 => .nx (ρ1.set i (some d))
theorem ds_set (i : Nat) {x : Str} {e : Expr} {pos' : Pos} (hN : X.N.Nodup) (he : DE X W O e fa) (ho : decide (i ∈ O) = false := by rfl) (hi : X.N[i]? = some x := by rfl) (hx : Loc X.env.scope x := by first | exact Or.inl rfl | exact Or.inr rfl) (hs : swapsWith e (some (.Name x pos')) pos.line X.env = pure false := by rfl)
    (hf : X.fn x = true ∨ X.env.scope.names.lookup x = some .local := by first | exact .inl rfl | exact .inr rfl | assumption) : DS X W own Ol O (.Assign [.Name x pos'] e pos) O (sSet i fa) := by
  refine ⟨ps_imp (ps_set hN hi hx he.pe hs hf) fun E σ H p => ?_⟩
  obtain ⟨B, ρ, F, rp, p⟩ := p
  exact ⟨B, ρ, F, rp, (SPost.val p).imp fun d ρ1 F1 H1 _ e1 rp1 p1 x hx => p1 _ F1 H1 (Ex.refl F1) (rp1.store (of_decide_eq_false ho) hx)⟩
/-- name = a new thing of one's own -/
@[simp] def sSetO (i : Nat) (fa : Env → R D) (ρ : Env) : Out := rOut (fa ρ) fun d ρ1 => if i < ρ1.length then .nx (ρ1.set i (some d)) else .bad
theorem ds_setO (i : Nat) {x : Str} {e : Expr} {pos' : Pos} (hN : X.N.Nodup) (he : DO X W O e fa) (ho : decide (i ∈ O) = false := by rfl) (hi : X.N[i]? = some x := by rfl) (hx : Loc X.env.scope x := by first | exact Or.inl rfl | exact Or.inr rfl) (hs : swapsWith e (some (.Name x pos')) pos.line X.env = pure false := by rfl)
    (hf : X.fn x = true ∨ X.env.scope.names.lookup x = some .local := by first | exact .inl rfl | exact .inr rfl | assumption) : DS X W own Ol O (.Assign [.Name x pos'] e pos) (i :: O) (sSetO i fa) := by
  refine ⟨ps_imp (ps_set hN hi hx he.pe hs hf) fun E σ H p => ?_⟩
  obtain ⟨B, ρ, F, rp, p⟩ := p
  refine ⟨B, ρ, F, rp, (SPost.val p).imp fun d ρ1 F1 H1 _ e1 rp1 p1 a o m => ?_⟩
  split at p1
  · next hl =>
    obtain ⟨m1, m2, m3, m4, m6, m5⟩ := m
    exact p1 _ F1 H1 (Ex.refl F1) (rp1.take (of_decide_eq_false ho) hl m1 m2 m3 m4 m6 m5)
  · exact p1.elim
/-! targets -/
/-- only the slots ts are stored -/
def Only (ts : List Nat) (σ σ' : L2.St) : Prop := σ'.length = σ.length ∧ ∀ i, i ∉ ts → σ'[i]? = σ[i]?
def GSpec (K : PySem.W.Frag) (O ts : List Nat) (set : D → Env → Option Env) : TG := fun v σ H Q => ∃ B ρ F d ρ', Rep K B O ρ σ F H ∧ Rp K F v d ∧ set d ρ = some ρ' ∧ ∀ σ', Rep K B O ρ' σ' F H → Only ts σ σ' → Q σ' H
def GsSpec (K : PySem.W.Frag) (O ts : List Nat) (set : List D → Env → Option Env) : TGs := fun v σ H Q => ∃ B ρ F d ρ', Rep K B O ρ σ F H ∧ RpA K F v d ∧ set d ρ = some ρ' ∧ ∀ σ', Rep K B O ρ' σ' F H → Only ts σ σ' → Q σ' H
structure DG (X : Cx) (O ts : List Nat) (tg : Expr) (set : D → Env → Option Env) : Prop where
  pg : PG X tg (GSpec X.K O ts set)
structure DGs (X : Cx) (O ts : List Nat) (tg : List Expr) (set : List D → Env → Option Env) : Prop where
  pgs : PGs X tg (GsSpec X.K O ts set)
theorem Only.refl {σ : L2.St} : Only [] σ σ := ⟨rfl, fun _ _ => rfl⟩
theorem Only.set {σ : L2.St} {i : Nat} {v : Option V} : Only [i] σ (σ.set i v) := ⟨List.length_set, fun j hj => List.getElem?_set_ne (fun z => hj (by rw [z]; exact List.mem_singleton.mpr rfl))⟩
theorem Only.trans {t1 t2 : List Nat} {σ σ1 σ2 : L2.St} (a : Only t1 σ σ1) (b : Only t2 σ1 σ2) : Only (t1 ++ t2) σ σ2 :=
  ⟨b.1.trans a.1, fun i hi => (b.2 i fun z => hi (List.mem_append_right _ z)).trans (a.2 i fun z => hi (List.mem_append_left _ z))⟩
theorem pg_imp {e : Expr} {t t' : TG} (h : PG X e t) (k : ∀ v σ H Q, t' v σ H Q → t v σ H Q) : PG X e t' := ⟨fun pins s σ H v u Q I r q => h.run pins s σ H v u Q I r (k v σ H Q q)⟩
theorem pgs_imp {e : List Expr} {t t' : TGs} (h : PGs X e t) (k : ∀ v σ H Q, t' v σ H Q → t v σ H Q) : PGs X e t' := ⟨fun pins s σ H v u Q I r q => h.run pins s σ H v u Q I r (k v σ H Q q)⟩
@[simp] def gN (i : Nat) (d : D) (ρ : Env) : Option Env := some (ρ.set i (some d))
@[simp] def gNilD (ds : List D) (ρ : Env) : Option Env := match ds with
  | [] => some ρ
  | _ => none
@[simp] def gConsD (t : D → Env → Option Env) (u : List D → Env → Option Env) (ds : List D) (ρ : Env) : Option Env := match ds with
  | d :: r => (t d ρ).bind (u r)
  | [] => none
@[simp] def gTupD (n : Nat) (u : List D → Env → Option Env) (d : D) (ρ : Env) : Option Env := match d with
  | .tup ds => if ds.length = n then u ds ρ else none
  | _ => none
@[simp] def gLstD (n : Nat) (u : List D → Env → Option Env) (d : D) (ρ : Env) : Option Env := match d with
  | .lst ds => if ds.length = n then u ds ρ else none
  | _ => none
variable {set1 : D → Env → Option Env} {sets : List D → Env → Option Env}
theorem dg_name (i : Nat) {x : Str} (hN : X.N.Nodup) (ho : decide (i ∈ O) = false := by rfl) (hi : X.N[i]? = some x := by rfl) (hx : Loc X.env.scope x := by first | exact Or.inl rfl | exact Or.inr rfl)
    (hf : X.fn x = true ∨ X.env.scope.names.lookup x = some .local := by first | exact .inl rfl | exact .inr rfl | assumption) : DG X O [i] (.Name x pos) (gN i) := by
  refine ⟨pg_imp (pg_name hN hi hx hf) fun v σ H Q p => ?_⟩
  obtain ⟨B, ρ, F, d, ρ', rp, hv, e, q⟩ := p
  cases e
  exact q _ (rp.store (of_decide_eq_false ho) hv) Only.set
theorem dgs_nil : DGs X O [] [] gNilD := by
  refine ⟨pgs_imp pgs_nil fun v σ H Q p => ?_⟩
  obtain ⟨B, ρ, F, d, ρ', rp, hv, e, q⟩ := p
  cases hv with
  | nil => cases e; exact ⟨rfl, q _ rp Only.refl⟩
  | cons _ _ => cases e
theorem dgs_cons {e : Expr} {es : List Expr} {t1 t2 : List Nat} (h1 : DG X O t1 e set1) (h2 : DGs X O t2 es sets) (hs : (assignEach (e :: es) X.env).map (·.2) = assign e X.env :: (assignEach es X.env).map (·.2) := by rfl) : DGs X O (t1 ++ t2) (e :: es) (gConsD set1 sets) := by
  refine ⟨pgs_imp (pgs_cons h1.pg h2.pgs hs) fun v σ H Q p => ?_⟩
  obtain ⟨B, ρ, F, d, ρ', rp, hv, e, q⟩ := p
  cases hv with
  | nil => cases e
  | cons hx hr =>
    rename_i x xs y ys
    have e' : (set1 y ρ).bind (sets ys) = some ρ' := e
    cases h : set1 y ρ with
    | none => rw [h] at e'; cases e'
    | some ρ1 =>
      rw [h] at e'
      exact ⟨_, _, rfl, B, ρ, F, y, ρ1, rp, hx, h, fun σ1 r1 o1 => ⟨B, ρ1, F, ys, ρ', r1, hr, e', fun σ2 r2 o2 => q σ2 r2 (o1.trans o2)⟩⟩
theorem dg_tup {es : List Expr} {k : Nat} {n : Nat} {ts : List Nat} (hc : X.calm = true) (h : DGs X O ts es sets) (hn : (assignEach es X.env).length = n := by rfl) (hst : (assignEach es X.env).findIdx? (·.1) = none := by rfl) : DG X O ts (.Tuple es k pos) (gTupD n sets) := by
  refine ⟨pg_imp (pg_tup hc h.pgs hn hst) fun v σ H Q p => ?_⟩
  obtain ⟨B, ρ, F, d, ρ', rp, hv, e, q⟩ := p
  cases hv with
  | tup hs ha =>
    rename_i a xs ds
    have e' : (if ds.length = n then sets ds ρ else none) = some ρ' := e
    split at e'
    · next hl => exact ⟨a, xs, rfl, Evl.ex_t rp.sub hs, by rw [ha.length]; exact hl, B, ρ, F, ds, ρ', rp, ha, e', q⟩
    · cases e'
  | _ => cases e
theorem dg_lst {es : List Expr} {k : Nat} {n : Nat} {ts : List Nat} (hc : X.calm = true) (h : DGs X O ts es sets) (hn : (assignEach es X.env).length = n := by rfl) (hst : (assignEach es X.env).findIdx? (·.1) = none := by rfl) : DG X O ts (.Tuple es k pos) (gLstD n sets) := by
  refine ⟨pg_imp (pg_lst hc h.pgs hn hst) fun v σ H Q p => ?_⟩
  obtain ⟨B, ρ, F, d, ρ', rp, hv, e, q⟩ := p
  cases hv with
  | lst hs ha =>
    rename_i a xs ds
    have e' : (if ds.length = n then sets ds ρ else none) = some ρ' := e
    split at e'
    · next hl => exact ⟨a, xs, rfl, SqL.of (rp.sub _ _ hs), by rw [ha.length]; exact hl, B, ρ, F, ds, ρ', rp, ha, e', q⟩
    · cases e'
  | _ => cases e
@[simp] def sAsg (fa : Env → R D) (set : D → Env → Option Env) (ρ : Env) : Out := rOut (fa ρ) fun d ρ1 => match set d ρ1 with
  | some ρ2 => .nx ρ2
  | none => .bad
theorem ds_asg {tg e : Expr} {ts : List Nat} (he : DE X W O e fa) (hg : DG X O ts tg set1) (hs : swapsWithSole [tg] e pos.line X.env = pure false := by rfl) (hw : swappedStores [tg] e X.env = pure none := by rfl)
    (h1 : (assignEach [tg] X.env).map (·.2) = [assign tg X.env] := by rfl) : DS X W own Ol O (.Assign [tg] e pos) O (sAsg fa set1) := by
  refine ⟨ps_imp (ps_asg he.pe hg.pg hs hw h1) fun E σ H p => ?_⟩
  obtain ⟨B, ρ, F, rp, p⟩ := p
  refine ⟨B, ρ, F, rp, (SPost.val p).imp fun d ρ1 F1 H1 _ e1 rp1 p1 x hx => ?_⟩
  split at p1
  · next ρ2 h => exact ⟨B, ρ1, F1, d, ρ2, rp1, hx, h, fun σ' r' _ => p1 σ' F1 H1 (Ex.refl F1) r'⟩
  · exact p1.elim
/-- return e -/
@[simp] def sRet (fa : Env → R D) (ρ : Env) : Out := rOut (fa ρ) fun d ρ1 => .rt d ρ1
theorem ds_ret {e : Expr} (he : DE X W O e fa) : DS X W false Ol O (.Return (some e) pos) O' (sRet fa) := by
  refine ⟨ps_imp (ps_ret he.pe) fun E σ H p => ?_⟩
  obtain ⟨B, ρ, F, rp, p⟩ := p
  refine ⟨B, ρ, F, rp, (SPost.val p).imp fun d ρ1 F1 H1 _ e1 rp1 p1 x hx => ?_⟩
  obtain ⟨F2, ex, r2, _⟩ := rp1.freeze (O' := B.par.map (·.1)) (fun i hi => by
    obtain ⟨q, hq, rfl⟩ := List.mem_map.mp hi
    exact (rp1.par q hq).1) (fun q hq => List.mem_map.mpr ⟨q, hq, rfl⟩)
  exact p1 σ F2 H1 ex r2 x (hx.up ex)
theorem ds_retO {e : Expr} (he : DO X W O e fa) : DS X W true Ol O (.Return (some e) pos) O' (sRet fa) := by
  refine ⟨ps_imp (ps_ret he.pe) fun E σ H p => ?_⟩
  obtain ⟨B, ρ, F, rp, p⟩ := p
  refine ⟨B, ρ, F, rp, (SPost.val p).imp fun d ρ1 F1 H1 _ e1 rp1 p1 a o m => ?_⟩
  obtain ⟨F2, ex, r2, same⟩ := rp1.freeze (O' := B.par.map (·.1)) (fun i hi => by
    obtain ⟨q, hq, rfl⟩ := List.mem_map.mp hi
    exact (rp1.par q hq).1) (fun q hq => List.mem_map.mpr ⟨q, hq, rfl⟩)
  obtain ⟨m1, m2, m3, m4, m6, m5⟩ := m
  exact p1 σ F2 H1 ex r2 a o m4 m1 (by rw [same a fun i hi _ => m5 i hi]; exact m2) (m3.up ex)
/-- return name, the name's thing is one's own -/
@[simp] def sRetV (i : Nat) (ρ : Env) : Out := match ρ[i]? with
  | some (some d) => .rt d (ρ.set i none)
  | _ => .bad
theorem ds_retV (i : Nat) {x : Str} {pos' : Pos} (ho : decide (i ∈ O) = true := by rfl) (hz : i ≠ 0 := by decide) (hN : X.N[i]? = some x := by rfl) (hv : Vis X.env.scope x := by first | exact Or.inl rfl | exact Or.inr (Or.inl rfl) | exact Or.inr (Or.inr rfl)) (hd : (x == ("__debug__" : Str)) = false := by decide)
    (hcd : (x == ("__classdict__" : Str)) = false := by decide) : DS X W true Ol O (.Return (some (.Name x pos')) pos) O' (sRetV i) := by
  refine ⟨ps_imp (ps_ret (pe_var hN hv hd hcd)) fun E σ H p => ?_⟩
  obtain ⟨B, ρ, F, rp, p⟩ := p
  obtain ⟨a, o, d, h1, h2, h3, h4, h5, h6⟩ := rp.own i (of_decide_eq_true ho)
  refine ⟨V.ref a, h2, ?_⟩
  have p : SPost X.K X.mg W true Ol O' B F E (.rt d (ρ.set i none)) := by
    have e : sRetV i ρ = .rt d (ρ.set i none) := by unfold sRetV; rw [h1]
    rw [← e]; exact p
  have hp : ∀ q, q ∈ B.par → q.1 ≠ i := fun q hq => by rw [rp.pz q hq]; exact Ne.symm hz
  obtain ⟨F2, ex, r2, same⟩ := rp.freeze (O' := i :: B.par.map (·.1)) (fun j hj => by
    rcases List.mem_cons.mp hj with rfl | hj
    · exact of_decide_eq_true ho
    · obtain ⟨q, hq, rfl⟩ := List.mem_map.mp hj
      exact (rp.par q hq).1) (fun q hq => List.mem_cons_of_mem _ (List.mem_map.mpr ⟨q, hq, rfl⟩))
  have r3 := r2.drop (O' := B.par.map (·.1)) (i := i) (fun j => ⟨fun hj => by
    obtain ⟨q, hq, rfl⟩ := List.mem_map.mp hj
    exact ⟨List.mem_cons_of_mem _ hj, hp q hq⟩, fun ⟨hj, nj⟩ => (List.mem_cons.mp hj).resolve_left nj⟩) hp
  have h6' : B.H0 a = none := by
    rcases h6 with h6 | ⟨q, hq, e⟩
    · exact h6
    · have q1 := rp.par q hq
      rw [e] at q1
      exact absurd (rp.sep q.1 i a q1.1 (of_decide_eq_true ho) q1.2 h2) (hp q hq)
  exact p σ F2 H ex r3 a o h6' h3 (by rw [same a fun j hj nj z => nj (by rw [rp.sep j i a hj (of_decide_eq_true ho) z h2]; exact List.mem_cons_self)]; exact h4) (h5.up ex)
@[simp] def sRetN (ρ : Env) : Out := .rt .non ρ
theorem ds_retN : DS X W false Ol O (.Return none pos) O' sRetN := by
  refine ⟨ps_imp ps_retN fun E σ H p => ?_⟩
  obtain ⟨B, ρ, F, rp, p⟩ := p
  obtain ⟨F2, ex, r2, _⟩ := rp.freeze (O' := B.par.map (·.1)) (fun i hi => by
    obtain ⟨q, hq, rfl⟩ := List.mem_map.mp hi
    exact (rp.par q hq).1) (fun q hq => List.mem_map.mpr ⟨q, hq, rfl⟩)
  exact p σ F2 H ex r2 _ .non
@[simp] def sIf (t : Env → R Bool) (g1 g2 : Env → Out) (ρ : Env) : Out := rOut (t ρ) fun b ρ1 => match b with
  | true => g1 ρ1
  | false => g2 ρ1
theorem ds_if {c : Expr} {a b : List Stmt} (hc : DT X W O c ta) (ha : DSs X W own Ol O a O' g1) (hb : DSs X W own Ol O b O' g2) : DS X W own Ol O (.If c a b pos) O' (sIf ta g1 g2) := by
  refine ⟨ps_imp (ps_if hc.pt ha.pss hb.pss) fun E σ H p => ?_⟩
  obtain ⟨B, ρ, F, rp, p⟩ := p
  refine ⟨B, ρ, F, rp, (SPost.val p).imp fun b ρ1 F1 H1 _ e1 rp1 p1 => ?_⟩
  cases b with
  | true => exact iteT ⟨B, ρ1, F1, rp1, p1⟩
  | false => exact iteF ⟨B, ρ1, F1, rp1, p1⟩

/-! ### what is walked -/
structure ItD (K : PySem.W.Frag) (J : It) (F : Hp) (ds : List D) : Prop where
  go : ∀ F' H' i, Ex F F' → Ex F' H' → i < ds.length → J.go i H'
  stop : ∀ F' H' i, Ex F F' → Ex F' H' → ds.length ≤ i → J.stop i H'
  yld : ∀ B O ρ σ F' H' i x H'', Ex F F' → Rep K B O ρ σ F' H' → J.yld i H' x H'' → i < ds.length → ∃ d F'', ds[i]? = some d ∧ Ex F' F'' ∧ Rep K B O ρ σ F'' H'' ∧ Rp K F'' x d
def ISpec (K : PySem.W.Frag) (mg : MG) (W : WX) (O : List Nat) (f : Env → R (List D)) : TI := fun σ H Q => ∃ B ρ F, Rep K B O ρ σ F H ∧ GPost K mg W O B F σ (f ρ) (fun ds _ F' H' => ∀ J, ItD K J F' ds → Q J H')
structure DI (X : Cx) (W : WX) (O : List Nat) (tg iter : Expr) (f : Env → R (List D)) : Prop where
  pi : PI X tg iter (ISpec X.K X.mg W O f)
theorem itd_list {K : PySem.W.Frag} {F : Hp} {a : Addr} {xs : List V} {ds : List D} (hs : SqL K F a xs) (ha : RpA K F xs ds) : ItD K (Itl K a) F ds := by
  refine ⟨fun F' H' i e e' hi => ?_, fun F' H' i e e' hi => ?_, fun B O ρ σ F' H' i x H'' e r y hi => ?_⟩
  · have hl : i < xs.length := by rw [ha.length]; exact hi
    exact ⟨xs, xs[i], Evl.ex_l (e.trans e') hs, List.getElem?_eq_getElem hl⟩
  · exact ⟨xs, Evl.ex_l (e.trans e') hs, by rw [ha.length]; exact hi⟩
  · obtain ⟨rfl, y⟩ := y
    obtain ⟨d, h1, h2⟩ := ha.get (y xs (Evl.ex_l (e.trans r.sub) hs))
    exact ⟨d, F', h1, Ex.refl F', r, h2.up e⟩
theorem itd_tup {K : PySem.W.Frag} {F : Hp} {a : Addr} {xs : List V} {ds : List D} (hs : SqT K F a xs) (ha : RpA K F xs ds) : ItD K (Itt K a) F ds := by
  refine ⟨fun F' H' i e e' hi => ?_, fun F' H' i e e' hi => ?_, fun B O ρ σ F' H' i x H'' e r y hi => ?_⟩
  · have hl : i < xs.length := by rw [ha.length]; exact hi
    exact ⟨xs, xs[i], Evl.ex_t (e.trans e') hs, List.getElem?_eq_getElem hl⟩
  · exact ⟨xs, Evl.ex_t (e.trans e') hs, by rw [ha.length]; exact hi⟩
  · obtain ⟨rfl, y⟩ := y
    obtain ⟨d, h1, h2⟩ := ha.get (y xs (Evl.ex_t (e.trans r.sub) hs))
    exact ⟨d, F', h1, Ex.refl F', r, h2.up e⟩
@[simp] def rangeD (lo : Int) (n : Nat) : List D := (List.range n).map fun i => .int (lo + (i : Nat))
theorem itd_range {K : PySem.W.Frag} {F : Hp} (lo : Int) (n : Nat) : ItD K (Itr lo n) F (rangeD lo n) := by
  have hl : (rangeD lo n).length = n := by unfold rangeD; rw [List.length_map, List.length_range]
  refine ⟨fun F' H' i e e' hi => by rw [hl] at hi; exact hi, fun F' H' i e e' hi => by rw [hl] at hi; exact hi, fun B O ρ σ F' H' i x H'' e r y hi => ?_⟩
  obtain ⟨rfl, rfl⟩ := y
  rw [hl] at hi
  refine ⟨.int (lo + (i : Nat)), F', ?_, Ex.refl F', r, .int _⟩
  unfold rangeD
  rw [List.getElem?_map, List.getElem?_range hi]
  rfl
@[simp] def seqD : D → Option (List D)
  | .lst ds => some ds
  | .tup ds => some ds
  | _ => none
@[simp] def fSeq (fa : Env → R D) (ρ : Env) : R (List D) := (fa ρ).bind fun d ρ1 => lift (seqD d) ρ1
/-- a list or a tuple is walked -/
theorem di_seq {tg l : Expr} (hl : DE X W O l fa) : DI X W O tg l (fSeq fa) := by
  refine ⟨⟨fun pins s σ H Q I p => ?_⟩⟩
  obtain ⟨B, ρ, F, rp, p⟩ := p
  have q := p.bind
  have pl := pi_list (tg := tg) hl.pe
  have pt := pi_tup (tg := tg) hl.pe
  cases hf : fa ρ with
  | bad => rw [hf] at q; exact q.elim
  | exc c d ρ' =>
    rw [hf] at q
    exact pl.run pins s σ H Q I ⟨B, ρ, F, rp, by rw [hf]; exact q⟩
  | ok d ρ' =>
    rw [hf] at q
    have key : ∀ F' H', Ex F F' → Rep X.K B O ρ' σ F' H' → ∃ z, seqD d = some z ∧ ∀ F'' H'', Ex F' F'' → Rep X.K B O ρ' σ F'' H'' → ∀ J, ItD X.K J F'' z → Q J H'' := fun F' H' e r => liftB (q F' H' e r)
    cases d with
    | lst ds =>
      refine pl.run pins s σ H Q I ⟨B, ρ, F, rp, ?_⟩
      rw [hf]
      intro F' H' e r x hx
      obtain ⟨z, hz, k⟩ := key F' H' e r
      cases hz
      cases hx with
      | lst hs ha => exact ⟨_, rfl, ⟨_, SqL.of (r.sub _ _ hs)⟩, k F' H' (Ex.refl F') r _ (itd_list (SqL.of hs) ha)⟩
    | tup ds =>
      refine pt.run pins s σ H Q I ⟨B, ρ, F, rp, ?_⟩
      rw [hf]
      intro F' H' e r x hx
      obtain ⟨z, hz, k⟩ := key F' H' e r
      cases hz
      cases hx with
      | tup hs ha => exact ⟨_, rfl, ⟨_, Evl.ex_t r.sub hs⟩, k F' H' (Ex.refl F') r _ (itd_tup hs ha)⟩
    | _ =>
      refine pl.run pins s σ H Q I ⟨B, ρ, F, rp, ?_⟩
      rw [hf]
      intro F' H' e r x hx
      obtain ⟨z, hz, k⟩ := key F' H' e r
      cases hz
@[simp] def rng1D : List D → Option (List D)
  | [.int j] => if -(2 ^ 62) ≤ j ∧ j < 2 ^ 62 then some (rangeD 0 j.toNat) else none
  | _ => none
@[simp] def rng2D : List D → Option (List D)
  | [.int i, .int j] => if -(2 ^ 62) ≤ i ∧ i < 2 ^ 62 ∧ -(2 ^ 62) ≤ j ∧ j < 2 ^ 62 then some (rangeD i (j - i).toNat) else none
  | _ => none
@[simp] def fL (g : List D → Option (List D)) (fr : Env → R (List D)) (ρ : Env) : R (List D) := (fr ρ).bind fun ds ρ1 => lift (g ds) ρ1
theorem di_rng1 {tg a : Expr} {p pos : Pos} (hm : X.mg "range" = none) (ha : DA X W O [a] fr) (hg : Gl X "range" := by rfl) (hs : starEach [a] X.env = [(false, eval a X.env)] := by rfl) : DI X W O tg (.Call (.Name "range" p) [a] [] pos) (fL rng1D fr) := by
  refine ⟨⟨fun pins s σ H Q I p => (pi_range1 hg hm ha.pa hs).run pins s σ H Q I ?_⟩⟩
  obtain ⟨B, ρ, F, rp, p⟩ := p
  refine ⟨B, ρ, F, rp, p.bind.imp fun ds ρ1 F1 H1 hq0 e1 rp1 p1 xs hxs => ?_⟩
  obtain ⟨z, hz, q⟩ := liftB p1
  unfold rng1D at hz
  split at hz
  · next j =>
    split at hz
    · next hj =>
      cases hz
      cases hxs with
      | cons h1 h2 =>
        cases h2
        cases h1
        exact ⟨j, rfl, hj.1, hj.2, q F1 H1 (Ex.refl F1) rp1 _ (itd_range 0 j.toNat)⟩
    · cases hz
  · cases hz
theorem di_rng2 {tg a b : Expr} {p pos : Pos} (hm : X.mg "range" = none) (ha : DA X W O [a, b] fr) (hg : Gl X "range" := by rfl) (hs : starEach [a, b] X.env = [(false, eval a X.env), (false, eval b X.env)] := by rfl) (hs2 : starEach [b] X.env = [(false, eval b X.env)] := by rfl) :
    DI X W O tg (.Call (.Name "range" p) [a, b] [] pos) (fL rng2D fr) := by
  refine ⟨⟨fun pins s σ H Q I p => (pi_range2 hg hm ha.pa hs hs2).run pins s σ H Q I ?_⟩⟩
  obtain ⟨B, ρ, F, rp, p⟩ := p
  refine ⟨B, ρ, F, rp, p.bind.imp fun ds ρ1 F1 H1 hq0 e1 rp1 p1 xs hxs => ?_⟩
  obtain ⟨z, hz, q⟩ := liftB p1
  unfold rng2D at hz
  split at hz
  · next i j =>
    split at hz
    · next hj =>
      cases hz
      cases hxs with
      | cons h1 h2 =>
        cases h2 with
        | cons h2 h3 =>
          cases h3
          cases h1
          cases h2
          exact ⟨i, j, rfl, hj, q F1 H1 (Ex.refl F1) rp1 _ (itd_range i _)⟩
    · cases hz
  · cases hz

/-! ### for, while -/
@[simp] def forL (set : D → Env → Option Env) (g : Env → Out) : List D → Env → Out
  | [], ρ => .nx ρ
  | d :: r, ρ => match set d ρ with
    | none => .bad
    | some ρ1 => match g ρ1 with
      | .nx ρ2 => forL set g r ρ2
      | .ct ρ2 => forL set g r ρ2
      | .bk ρ2 => .nx ρ2
      | .rt d ρ2 => .rt d ρ2
      | .exc c d ρ2 => .exc c d ρ2
      | .bad => .bad
@[simp] def sFor (fi : Env → R (List D)) (set : D → Env → Option Env) (g : Env → Out) (ρ : Env) : Out := rOut (fi ρ) fun ds ρ1 => forL set g ds ρ1
variable {fi : Env → R (List D)}
theorem ds_for {tg iter : Expr} {body : List Stmt} {ts : List Nat} (hp : PassesOwn (model X.prog X.w) X.A X.env X.xe) (hc : X.calm = true) (hi : DI X W O tg iter fi) (hg : DG X O ts tg set1) (hb : DSs X W own O O body O g)
    (hs : ∀ x, foldedSetIterable iter X.env x = pure x := by intro _; rfl) : DS X W own Ol O (.For tg iter body [] pos) O (sFor fi set1 g) := by
  refine ⟨ps_imp (ps_for hp hc hi.pi hg.pg hb.pss hs) fun E σ H p => ?_⟩
  obtain ⟨B, ρ, F, rp, p⟩ := p
  refine ⟨B, ρ, F, rp, (SPost.val p).imp fun ds ρ1 F1 H1 _ e1 rp1 p1 J J1 => ?_⟩
  refine ⟨fun i m σ' H' => m = ds.length - i ∧ i ≤ ds.length ∧ ∃ ρ' F', Ex F1 F' ∧ Rep X.K B O ρ' σ' F' H' ∧ SPost X.K X.mg W own Ol O B F' E (forL set1 g (ds.drop i) ρ'),
    ⟨ds.length, by simp, Nat.zero_le _, ρ1, F1, Ex.refl F1, rp1, p1⟩, ?_⟩
  rintro i m σ' H' ⟨rfl, hi, ρ', F', ex, r', p'⟩
  by_cases hlt : i < ds.length
  · refine .inr ⟨J1.go F' H' i ex r'.sub hlt, fun σ2 H2 => ∃ ρ2 F2, Ex F1 F2 ∧ Rep X.K B O ρ2 σ2 F2 H2 ∧ SPost X.K X.mg W own Ol O B F2 E (forL set1 g (ds.drop (i + 1)) ρ2), fun σ2 H2 q => ⟨ds.length - (i + 1), by omega, rfl, hlt, q⟩, fun x H2 y => ?_⟩
    obtain ⟨d, F2, h1, ex2, r2, hx⟩ := J1.yld B O ρ' σ' F' H' i x H2 ex r' y hlt
    have hd : ds.drop i = d :: ds.drop (i + 1) := by
      rw [List.drop_eq_getElem_cons hlt]
      rw [List.getElem?_eq_getElem hlt] at h1
      rw [Option.some.inj h1]
    rw [hd] at p'
    have p2 := SPost.mono p' ex2
    cases hs1 : set1 d ρ' with
    | none =>
      have e : forL set1 g (d :: ds.drop (i + 1)) ρ' = .bad := by simp only [forL, hs1]
      rw [e] at p2
      exact p2.elim
    | some ρ2 =>
      refine ⟨B, ρ', F2, d, ρ2, r2, hx, hs1, fun σ2 r3 _ => ⟨B, ρ2, F2, r3, ?_⟩⟩
      cases hg2 : g ρ2 with
      | nx ρ3 =>
        have e : forL set1 g (d :: ds.drop (i + 1)) ρ' = forL set1 g (ds.drop (i + 1)) ρ3 := by simp only [forL, hs1, hg2]
        rw [e] at p2
        exact fun σ3 F3 H3 e3 r4 => ⟨ρ3, F3, ex.trans (ex2.trans e3), r4, SPost.mono p2 e3⟩
      | ct ρ3 =>
        have e : forL set1 g (d :: ds.drop (i + 1)) ρ' = forL set1 g (ds.drop (i + 1)) ρ3 := by simp only [forL, hs1, hg2]
        rw [e] at p2
        exact fun σ3 F3 H3 e3 r4 => ⟨ρ3, F3, ex.trans (ex2.trans e3), r4, SPost.mono p2 e3⟩
      | bk ρ3 =>
        have e : forL set1 g (d :: ds.drop (i + 1)) ρ' = .nx ρ3 := by simp only [forL, hs1, hg2]
        rw [e] at p2
        exact p2
      | rt u ρ3 =>
        have e : forL set1 g (d :: ds.drop (i + 1)) ρ' = .rt u ρ3 := by simp only [forL, hs1, hg2]
        rw [e] at p2
        exact p2
      | exc c u ρ3 =>
        have e : forL set1 g (d :: ds.drop (i + 1)) ρ' = .exc c u ρ3 := by simp only [forL, hs1, hg2]
        rw [e] at p2
        exact p2
      | bad =>
        have e : forL set1 g (d :: ds.drop (i + 1)) ρ' = .bad := by simp only [forL, hs1, hg2]
        rw [e] at p2
        exact p2
  · have e : i = ds.length := by omega
    subst e
    rw [List.drop_length] at p'
    exact .inl ⟨J1.stop F' H' _ ex r'.sub (Nat.le_refl _), p' σ' F' H' (Ex.refl F') r'⟩
def whileL (t : Env → R Bool) (g : Env → Out) : Nat → Env → Out
  | 0, _ => .bad
  | n + 1, ρ => match t ρ with
    | .ok false ρ1 => .nx ρ1
    | .ok true ρ1 => match g ρ1 with
      | .nx ρ2 => whileL t g n ρ2
      | .ct ρ2 => whileL t g n ρ2
      | .bk ρ2 => .nx ρ2
      | .rt d ρ2 => .rt d ρ2
      | .exc c d ρ2 => .exc c d ρ2
      | .bad => .bad
    | .exc c d ρ1 => .exc c d ρ1
    | .bad => .bad
theorem ds_while (fuel : Nat) {c : Expr} {body : List Stmt} (hp : PassesOwn (model X.prog X.w) X.A X.env X.xe) (hc : DT X W O c ta) (hb : DSs X W own O O body O g) : DS X W own Ol O (.While c body [] pos) O (whileL ta g fuel) := by
  refine ⟨ps_imp (ps_while hp hc.pt hb.pss) fun E σ H p => ?_⟩
  obtain ⟨B, ρ, F, rp, p⟩ := p
  refine ⟨fun m σ' H' => ∃ ρ' F', Rep X.K B O ρ' σ' F' H' ∧ SPost X.K X.mg W own Ol O B F' E (whileL ta g m ρ'), ⟨fuel, ρ, F, rp, p⟩, ?_⟩
  rintro m σ' H' ⟨ρ', F', r', p'⟩
  cases m with
  | zero => exact p'.elim
  | succ n =>
    refine ⟨B, ρ', F', r', ?_⟩
    cases ht : ta ρ' with
    | bad =>
      have e : whileL ta g (n + 1) ρ' = .bad := by simp only [whileL, ht]
      rw [e] at p'
      exact p'.elim
    | exc c d ρ1 =>
      have e : whileL ta g (n + 1) ρ' = .exc c d ρ1 := by simp only [whileL, ht]
      rw [e] at p'
      exact fun cl dx F2 H2 m x r q => p' O cl dx σ' F2 H2 m x r q
    | ok b ρ1 =>
      intro F2 H2 e2 r2
      cases b with
      | false =>
        have e : whileL ta g (n + 1) ρ' = .nx ρ1 := by simp only [whileL, ht]
        rw [e] at p'
        exact iteF (p' σ' F2 H2 e2 r2)
      | true =>
        refine iteT ⟨fun σ3 H3 => ∃ ρ3 F3, Rep X.K B O ρ3 σ3 F3 H3 ∧ SPost X.K X.mg W own Ol O B F3 E (whileL ta g n ρ3), fun σ3 H3 q => ⟨n, Nat.lt_succ_self n, q⟩, B, ρ1, F2, r2, ?_⟩
        have p2 := SPost.mono p' e2
        cases hg2 : g ρ1 with
        | nx ρ3 =>
          have e : whileL ta g (n + 1) ρ' = whileL ta g n ρ3 := by simp only [whileL, ht, hg2]
          rw [e] at p2
          exact fun σ3 F3 H3 e3 r4 => ⟨ρ3, F3, r4, SPost.mono p2 e3⟩
        | ct ρ3 =>
          have e : whileL ta g (n + 1) ρ' = whileL ta g n ρ3 := by simp only [whileL, ht, hg2]
          rw [e] at p2
          exact fun σ3 F3 H3 e3 r4 => ⟨ρ3, F3, r4, SPost.mono p2 e3⟩
        | bk ρ3 =>
          have e : whileL ta g (n + 1) ρ' = .nx ρ3 := by simp only [whileL, ht, hg2]
          rw [e] at p2
          exact p2
        | rt u ρ3 =>
          have e : whileL ta g (n + 1) ρ' = .rt u ρ3 := by simp only [whileL, ht, hg2]
          rw [e] at p2
          exact p2
        | exc c u ρ3 =>
          have e : whileL ta g (n + 1) ρ' = .exc c u ρ3 := by simp only [whileL, ht, hg2]
          rw [e] at p2
          exact p2
        | bad =>
          have e : whileL ta g (n + 1) ρ' = .bad := by simp only [whileL, ht, hg2]
          rw [e] at p2
          exact p2
end
end DL


namespace DL
open PySem PySem.Spec PyProof.Rows L2
open Evl (Ex)

section
variable {X : Cx} {W : WX} {own : Bool} {O O' Ol : List Nat} {pos : Pos} {fa fb : Env → R D} {fr : Env → R (List D)}

/-! ### a thing of one's own changes -/
@[simp] def atOwn (ρ : Env) (i : Nat) : Option (List D) := match ρ[i]? with
  | some (some (.lst ds)) => some ds
  | _ => none
theorem atOwn_some {ρ : Env} {i : Nat} {ds : List D} (h : atOwn ρ i = some ds) : ρ[i]? = some (some (.lst ds)) := by
  unfold atOwn at h
  split at h
  · next e => rw [e]; rw [Option.some.inj h]
  · cases h
theorem Rep.ownL {K : PySem.W.Frag} {B : Base} {ρ : Env} {σ : L2.St} {F H : Hp} {i : Nat} {ds : List D} (r : Rep K B O ρ σ F H) (hi : i ∈ O) (h : ρ[i]? = some (some (.lst ds))) :
    ∃ a xs, σ[i]? = some (some (V.ref a)) ∧ H a = some (.lst xs) ∧ RpA K F xs ds := by
  obtain ⟨a, o, d, h1, h2, h3, h4, h5, h6⟩ := r.own i hi
  rw [h] at h1
  cases h1
  cases h5 with
  | lst h5 => exact ⟨a, _, h2, h3, h5⟩
/-- name.append(e) -/
@[simp] def sApp (i : Nat) (fa : Env → R D) (ρ : Env) : Out := match atOwn ρ i with
  | none => .bad
  | some _ => rOut (fa ρ) fun d ρ1 => match atOwn ρ1 i with
    | some ds => if ds.length < 100000 then .nx (ρ1.set i (some (.lst (ds ++ [d])))) else .bad
    | none => .bad
theorem ds_app (i : Nat) {x : Str} {e : Expr} {p1 p2 p3 : Pos} (he : DE X W O e fa) (ho : decide (i ∈ O) = true := by rfl) (hN : X.N[i]? = some x := by rfl) (hv : Vis X.env.scope x := by first | exact Or.inl rfl | exact Or.inr (Or.inl rfl) | exact Or.inr (Or.inr rfl)) (hd : (x == ("__debug__" : Str)) = false := by decide)
    (hcd : (x == ("__classdict__" : Str)) = false := by decide)
    (hbase : attributeBase (.Name x p1) ("append" : Str) X.env (eval (.Name x p1) X.env) = eval (.Name x p1) X.env := by rfl)
    (hfew : ((backTo p3 (starEach [e] X.env)).all (fun x => !x.1) && (backToKw p3 (keywordEach [] X.env)).all (fun x => x.1.isSome)
      && decide (([e] : List Expr).length + ([] : List Keyword).length + (if ([] : List Keyword).isEmpty then 0 else 1) < 30)) = true := by rfl)
    (hline : (p2.endLine == p3.line) = true := by rfl) (hs : starEach [e] X.env = (false, eval e X.env) :: starEach [] X.env := by rfl) (hplain : (backTo p3 (starEach [] X.env)).any (·.1) = false := by rfl)
    (hsw : swapsWith (.Call (.Attribute (.Name x p1) ("append" : Str) p2) [e] [] p3) none pos.line X.env = pure false := by rfl) :
    DS X W own Ol O (.Expr (.Call (.Attribute (.Name x p1) ("append" : Str) p2) [e] [] p3) pos) O (sApp i fa) := by
  refine ⟨ps_imp (ps_expr (pe_bm PySem.F.plainAttrs_list PySem.F.slot_list_append PySem.F.type_list_append mt_append (pe_var hN hv hd hcd) (pa_cons he.pe pa_nil hs) hbase hfew hline hs hplain) hsw) fun E σ H p => ?_⟩
  obtain ⟨B, ρ, F, rp, p⟩ := p
  have hi := of_decide_eq_true ho
  unfold sApp at p
  split at p
  · exact p.elim
  · next ds0 h0 =>
    obtain ⟨a, xs, g2, g3, g4⟩ := rp.ownL hi (atOwn_some h0)
    refine ⟨V.ref a, g2, .inl ⟨rfl, _, SqL.of g3⟩, B, ρ, F, rp, (SPost.val p).imp fun d ρ1 F1 H1 _ e1 rp1 p1 y hy => ?_⟩
    split at p1
    · next ds h1 =>
      split at p1
      · next hl =>
        obtain ⟨a1, ys, k1, k2, k3⟩ := rp1.ownL hi (atOwn_some h1)
        rw [g2] at k1
        cases k1
        exact ⟨a, ys, y, rfl, rfl, k2, Evl.sz_lt (by rw [k3.length]; exact hl), p1 σ F1 _ (Ex.refl F1) (rp1.change hi g2 (.lst (k3.append (.one hy))))⟩
      · exact p1.elim
    · exact p1.elim
/-- name.insert(i, e) -/
@[simp] def sIns (i : Nat) (fr : Env → R (List D)) (ρ : Env) : Out := match atOwn ρ i with
  | none => .bad
  | some _ => rOut (fr ρ) fun vs ρ1 => match vs, atOwn ρ1 i with
    | [.int j, d], some ds => if ds.length < 100000 ∧ 0 ≤ j ∧ j < 2 ^ 63 then .nx (ρ1.set i (some (.lst (ds.take j.toNat ++ [d] ++ ds.drop j.toNat)))) else .bad
    | _, _ => .bad
theorem ds_ins (i : Nat) {x : Str} {e e2 : Expr} {p1 p2 p3 : Pos} (he : DA X W O [e, e2] fr) (ho : decide (i ∈ O) = true := by rfl) (hN : X.N[i]? = some x := by rfl) (hv : Vis X.env.scope x := by first | exact Or.inl rfl | exact Or.inr (Or.inl rfl) | exact Or.inr (Or.inr rfl)) (hd : (x == ("__debug__" : Str)) = false := by decide)
    (hcd : (x == ("__classdict__" : Str)) = false := by decide)
    (hbase : attributeBase (.Name x p1) ("insert" : Str) X.env (eval (.Name x p1) X.env) = eval (.Name x p1) X.env := by rfl)
    (hfew : ((backTo p3 (starEach [e, e2] X.env)).all (fun x => !x.1) && (backToKw p3 (keywordEach [] X.env)).all (fun x => x.1.isSome)
      && decide (([e, e2] : List Expr).length + ([] : List Keyword).length + (if ([] : List Keyword).isEmpty then 0 else 1) < 30)) = true := by rfl)
    (hline : (p2.endLine == p3.line) = true := by rfl) (hs : starEach [e, e2] X.env = (false, eval e X.env) :: starEach [e2] X.env := by rfl) (hplain : (backTo p3 (starEach [e2] X.env)).any (·.1) = false := by rfl)
    (hsw : swapsWith (.Call (.Attribute (.Name x p1) ("insert" : Str) p2) [e, e2] [] p3) none pos.line X.env = pure false := by rfl) :
    DS X W own Ol O (.Expr (.Call (.Attribute (.Name x p1) ("insert" : Str) p2) [e, e2] [] p3) pos) O (sIns i fr) := by
  refine ⟨ps_imp (ps_expr (pe_bm PySem.F.plainAttrs_list PySem.F.slot_list_insert PySem.F.type_list_insert mt_insert (pe_var hN hv hd hcd) he.pa hbase hfew hline hs hplain) hsw) fun E σ H p => ?_⟩
  obtain ⟨B, ρ, F, rp, p⟩ := p
  have hi := of_decide_eq_true ho
  unfold sIns at p
  split at p
  · exact p.elim
  · next ds0 h0 =>
    obtain ⟨a, xs, g2, g3, g4⟩ := rp.ownL hi (atOwn_some h0)
    refine ⟨V.ref a, g2, .inl ⟨rfl, _, SqL.of g3⟩, B, ρ, F, rp, (SPost.val p).imp fun ws ρ1 F1 H1 hq0 e1 rp1 p1 ys hys => ?_⟩
    split at p1
    · next j d ds h1 =>
      split at p1
      · next hl =>
        obtain ⟨a1, zs, k1, k2, k3⟩ := rp1.ownL hi (atOwn_some h1)
        rw [g2] at k1
        cases k1
        cases hys with
        | cons y1 y2 =>
          cases y2 with
          | cons y2 y3 =>
            cases y3
            cases y1
            exact ⟨a, zs, j, _, rfl, rfl, k2, Evl.sz_lt (by rw [k3.length]; exact hl.1), hl.2.1, hl.2.2, p1 σ F1 _ (Ex.refl F1) (rp1.change hi g2 (.lst (((k3.take _).append (.one y2)).append (k3.drop _))))⟩
      · exact p1.elim
    · exact p1.elim
/-- name[i] = e -/
@[simp] def sSub (i : Nat) (fa fb : Env → R D) (ρ : Env) : Out := rOut (fa ρ) fun d ρ1 => match atOwn ρ1 i with
  | none => .bad
  | some _ => rOut (fb ρ1) fun j ρ2 => match j, atOwn ρ2 i with
    | .int j, some ds => match ixN ds.length j with
      | some k => .nx (ρ2.set i (some (.lst (ds.set k d))))
      | none => .bad
    | _, _ => .bad
theorem ds_sub (i : Nat) {x : Str} {e ie : Expr} {p1 p2 : Pos} (he : DE X W O e fa) (hie : DE X W O ie fb) (ho : decide (i ∈ O) = true := by rfl) (hN : X.N[i]? = some x := by rfl) (hv : Vis X.env.scope x := by first | exact Or.inl rfl | exact Or.inr (Or.inl rfl) | exact Or.inr (Or.inr rfl)) (hd : (x == ("__debug__" : Str)) = false := by decide)
    (hcd : (x == ("__classdict__" : Str)) = false := by decide)
    (ha : ∀ v, assign (.Subscript (.Name x p1) ie p2) X.env v = (do
      let ov ← holding [v] (eval (.Name x p1) X.env)
      let iv ← holding [v, ov] (eval ie X.env)
      standAt p2
      holding [v, ov, iv] (setItem ov iv v)
      release [v, ov, iv] []) := by intro _; rfl)
    (hs : swapsWithSole [.Subscript (.Name x p1) ie p2] e pos.line X.env = pure false := by rfl) (hw : swappedStores [.Subscript (.Name x p1) ie p2] e X.env = pure none := by rfl)
    (h1 : (assignEach [.Subscript (.Name x p1) ie p2] X.env).map (·.2) = [assign (.Subscript (.Name x p1) ie p2) X.env] := by rfl) :
    DS X W own Ol O (.Assign [.Subscript (.Name x p1) ie p2] e pos) O (sSub i fa fb) := by
  refine ⟨ps_imp (ps_asg he.pe (pg_sub (pe_var hN hv hd hcd) hie.pe set_list ha) hs hw h1) fun E σ H p => ?_⟩
  obtain ⟨B, ρ, F, rp, p⟩ := p
  have hi := of_decide_eq_true ho
  refine ⟨B, ρ, F, rp, (SPost.val p).imp fun d ρ1 F1 H1 hq0 e1 rp1 p1 y hy => ?_⟩
  split at p1
  · exact p1.elim
  · next ds0 h0 =>
    obtain ⟨a, xs, g2, g3, g4⟩ := rp1.ownL hi (atOwn_some h0)
    refine ⟨V.ref a, g2, B, ρ1, F1, rp1, (SPost.val p1).imp fun j ρ2 F2 H2 hq1 e2 rp2 p2 z hz => ?_⟩
    split at p2
    · next jd j' ds h1 =>
      split at p2
      · next k hk =>
        obtain ⟨a1, zs, k1, k2, k3⟩ := rp2.ownL hi (atOwn_some h1)
        rw [g2] at k1
        cases k1
        cases hz
        exact ⟨a, zs, _, k, rfl, rfl, k2, by rw [k3.length]; exact hk, p2 σ F2 _ (Ex.refl F2) (rp2.change hi g2 (.lst (RpA.set (hy.up e2) k k3)))⟩
      · exact p2.elim
    · exact p2.elim

/-! ### comprehensions -/
@[simp] def wipeD (ρ : Env) : List Nat → Env
  | [] => ρ
  | v :: vs => (wipeD ρ vs).set v none
/-- the slots vs as they were in ρ -/
@[simp] def backD (ρ ρ' : Env) : List Nat → Env
  | [] => ρ'
  | v :: vs => (backD ρ ρ' vs).set v (ρ[v]?.getD none)
@[simp] def lcL (set : D → Env → Option Env) (t : Env → R Bool) (f : Env → R D) (vs : List Nat) : List D → List D → Env → R (List D)
  | [], acc, ρ => .ok acc ρ
  | d :: r, acc, ρ => match set d (wipeD ρ vs) with
    | none => .bad
    | some ρ1 => match t ρ1 with
      | .ok false ρ2 => lcL set t f vs r acc ρ2
      | .ok true ρ2 => match f ρ2 with
        | .ok y ρ3 => if acc.length < 100000 then lcL set t f vs r (acc ++ [y]) ρ3 else .bad
        | .exc _ _ _ => .bad
        | .bad => .bad
      | .exc _ _ _ => .bad
      | .bad => .bad
@[simp] def fLc (vs : List Nat) (fi : Env → R (List D)) (set : D → Env → Option Env) (t : Env → R Bool) (f : Env → R D) (ρ : Env) : R D := (fi ρ).bind fun ds ρ1 => match lcL set t f vs ds [] ρ1 with
  | .ok acc ρ2 => .ok (.lst acc) (backD ρ1 ρ2 vs)
  | .exc _ _ _ => .bad
  | .bad => .bad
@[simp] def tYesD (ρ : Env) : R Bool := .ok true ρ
abbrev W0 : WX := fun _ _ _ _ => False
structure DTs (X : Cx) (W : WX) (O : List Nat) (ifs : List Expr) (f : Env → R Bool) : Prop where
  pts : PTs X ifs (TSpec X.K X.mg W O f)
theorem dts_nil : DTs X W O [] tYesD := by
  refine ⟨⟨fun pins s σ H Q I p => pts_nil.run pins s σ H Q I ?_⟩⟩
  obtain ⟨B, ρ, F, rp, p⟩ := p
  exact p F H (Ex.refl F) rp
theorem dts_one {c : Expr} {t : Env → R Bool} (h : DT X W O c t) : DTs X W O [c] t := ⟨pts_one h.pt⟩
theorem Rep.wipe {K : PySem.W.Frag} {B : Base} {ρ : Env} {σ : L2.St} {F H : Hp} (r : Rep K B O ρ σ F H) : ∀ {vs : List Nat}, (∀ v, v ∈ vs → v ∉ O) → Rep K B O (wipeD ρ vs) (L2.wipe σ vs) F H
  | [], _ => r
  | v :: vs, h => (Rep.wipe r fun w hw => h w (List.mem_cons_of_mem _ hw)).forget (h v List.mem_cons_self)
theorem wipe_at {σ : L2.St} {i : Nat} : ∀ {vs : List Nat}, i ∉ vs → (L2.wipe σ vs)[i]? = σ[i]?
  | [], _ => rfl
  | v :: vs, h => by
    unfold L2.wipe
    rw [List.getElem?_set_ne (fun z => h (by rw [z]; exact List.mem_cons_self))]
    exact wipe_at fun z => h (List.mem_cons_of_mem _ z)
theorem wipe_in {σ : L2.St} {i : Nat} : ∀ {vs : List Nat}, i ∈ vs → ∀ x, (L2.wipe σ vs)[i]? = some x → x = none
  | v :: vs, h, x, e => by
    unfold L2.wipe at e
    rcases set_some e with ⟨_, e⟩ | ⟨ne, e⟩
    · exact e
    · exact wipe_in ((List.mem_cons.mp h).resolve_left ne) x e
theorem wipe_wipe {σ : L2.St} (vs : List Nat) : L2.wipe (L2.wipe σ vs) vs = L2.wipe σ vs := by
  apply List.ext_getElem?
  intro i
  by_cases hi : i ∈ vs
  · cases e1 : (L2.wipe (L2.wipe σ vs) vs)[i]? with
    | none =>
      have l1 := List.getElem?_eq_none_iff.mp e1
      rw [wipe_length, wipe_length] at l1
      exact (List.getElem?_eq_none (by rw [wipe_length]; exact l1)).symm
    | some x =>
      have l1 := (List.getElem?_eq_some_iff.mp e1).1
      rw [wipe_length] at l1
      have q := List.getElem?_eq_getElem l1
      rw [wipe_in hi x e1, q]
      exact congrArg some (wipe_in hi _ q).symm
  · rw [wipe_at hi]
theorem backD_len (ρ ρ' : Env) : ∀ vs, (backD ρ ρ' vs).length = ρ'.length
  | [] => rfl
  | v :: vs => by unfold backD; rw [List.length_set, backD_len ρ ρ' vs]
theorem backD_at {ρ ρ' : Env} {i : Nat} : ∀ {vs : List Nat}, i ∉ vs → (backD ρ ρ' vs)[i]? = ρ'[i]?
  | [], _ => rfl
  | v :: vs, h => by
    unfold backD
    rw [List.getElem?_set_ne (fun z => h (by rw [z]; exact List.mem_cons_self))]
    exact backD_at fun z => h (List.mem_cons_of_mem _ z)
theorem backD_in {ρ ρ' : Env} {i : Nat} {d : D} : ∀ {vs : List Nat}, i ∈ vs → (backD ρ ρ' vs)[i]? = some (some d) → ρ[i]? = some (some d)
  | v :: vs, h, e => by
    unfold backD at e
    rcases set_some e with ⟨q, e⟩ | ⟨ne, e⟩
    · subst q
      cases e2 : ρ[i]? with
      | none => rw [e2] at e; cases e
      | some x => rw [e2] at e; exact congrArg some (Eq.symm e)
    · exact backD_in ((List.mem_cons.mp h).resolve_left ne) e
/-- behind the block: its own slots are as they were -/
theorem Rep.unwipe {K : PySem.W.Frag} {B B' : Base} {ρ1 ρ : Env} {σ σ2 : L2.St} {F1 H1 F H : Hp} {vs : List Nat} (r1 : Rep K B' O ρ1 σ F1 H1) (r : Rep K B O ρ σ2 F H) (ex : Ex F1 F) (hv : ∀ v, v ∈ vs → v ∉ O) (hs : ∀ i, i ∉ vs → σ2[i]? = σ[i]?) (hl : σ2.length = σ.length) :
    Rep K B O (backD ρ1 ρ vs) σ F H := by
  have no : ∀ i, i ∈ O → i ∉ vs := fun i hi z => hv i z hi
  refine ⟨r.sub, by rw [backD_len, r.len, hl], fun i d e hi => ?_, fun i hi => ?_, fun i j a hi hj => ?_, fun p hp => ⟨(r.par p hp).1, ?_⟩, r.f0, r.fresh, r.keep, fun a o h => ?_, r.pz, r.gz⟩
  · by_cases hiv : i ∈ vs
    · obtain ⟨v, h1, h2⟩ := r1.dat i d (backD_in hiv e) hi
      exact ⟨v, h1, h2.up ex⟩
    · rw [backD_at hiv] at e
      obtain ⟨v, h1, h2⟩ := r.dat i d e hi
      exact ⟨v, by rw [← hs i hiv]; exact h1, h2⟩
  · obtain ⟨a, o, d, h1, h2, h3⟩ := r.own i hi
    exact ⟨a, o, d, by rw [backD_at (no i hi)]; exact h1, by rw [← hs i (no i hi)]; exact h2, h3⟩
  · rw [← hs i (no i hi), ← hs j (no j hj)]
    exact r.sep i j a hi hj
  · rw [← hs _ (no _ (r.par p hp).1)]
    exact (r.par p hp).2
  · obtain ⟨q1, q2, q3⟩ := r.grd a o h
    exact ⟨q1, q2, fun j hj => by rw [← hs j (no j hj)]; exact q3 j hj⟩
/-- a list that grows beside us: it is guarded -/
theorem Rep.guard {K : PySem.W.Frag} {B : Base} {ρ : Env} {σ : L2.St} {F H : Hp} {a : Addr} {o o' : HO} (r : Rep K B O ρ σ F H) (hG : B.G a = some o) : Rep K { B with G := upd B.G a o' } O ρ σ F (upd H a o') := by
  obtain ⟨q1, q2, q3⟩ := r.grd a o hG
  refine ⟨fun b u e => ?_, r.len, r.dat, fun i hi => ?_, r.sep, r.par, r.f0, r.fresh, fun b u h1 h2 => ?_, fun b u h => ?_, r.pz, fun b u h => ?_⟩
  · rw [upd_ne (ne_of_none e q2)]; exact r.sub b u e
  · obtain ⟨b, u, d, h1, h2, h3, h4, h5, h6⟩ := r.own i hi
    have hb : b ≠ a := fun z => q3 i hi (by rw [← z]; exact h2)
    exact ⟨b, u, d, h1, h2, by rw [upd_ne hb]; exact h3, h4, h5, h6⟩
  · have q := r.keep b u h1 h2
    by_cases hb : b = a
    · subst hb
      rw [r.gz b o hG] at h1
      cases h1
    · rw [upd_ne hb]; exact q
  · have h : upd B.G a o' b = some u := h
    by_cases hb : b = a
    · subst hb
      rw [upd_same] at h
      cases h
      exact ⟨upd_same, q2, q3⟩
    · rw [upd_ne hb] at h
      obtain ⟨k1, k2, k3⟩ := r.grd b u h
      exact ⟨by rw [upd_ne hb]; exact k1, k2, k3⟩
  · have h : upd B.G a o' b = some u := h
    by_cases hb : b = a
    · rw [hb]; exact r.gz a o hG
    · rw [upd_ne hb] at h
      exact r.gz b u h
theorem Rep.newGuard {K : PySem.W.Frag} {B : Base} {ρ : Env} {σ : L2.St} {F H : Hp} {a : Addr} {o : HO} (r : Rep K B O ρ σ F H) (hp : H a = none) : Rep K { B with G := upd B.G a o } O ρ σ F (upd H a o) := by
  obtain ⟨r', m2, m4, m6, m5⟩ := r.laid (o := o) hp
  refine ⟨r'.sub, r'.len, r'.dat, r'.own, r'.sep, r'.par, r'.f0, r'.fresh, r'.keep, fun b u h => ?_, r'.pz, fun b u h => ?_⟩
  · have h : upd B.G a o b = some u := h
    by_cases hb : b = a
    · subst hb
      rw [upd_same] at h
      cases h
      exact ⟨upd_same, m2, m5⟩
    · rw [upd_ne hb] at h
      exact r'.grd b u h
  · have h : upd B.G a o b = some u := h
    by_cases hb : b = a
    · rw [hb]; exact m4
    · rw [upd_ne hb] at h
      exact r.gz b u h
/-- the guarded list is handed over -/
theorem Rep.unGuard {K : PySem.W.Frag} {B : Base} {ρ : Env} {σ : L2.St} {F H : Hp} {a : Addr} {o : HO} (r : Rep K { B with G := upd B.G a o } O ρ σ F H) (hg : B.G a = none) : Rep K B O ρ σ F H ∧ H a = some o ∧ F a = none ∧ B.H0 a = none ∧ ∀ j, j ∈ O → σ[j]? ≠ some (some (V.ref a)) := by
  have h0 : upd B.G a o a = some o := upd_same
  obtain ⟨q1, q2, q3⟩ := r.grd a o h0
  have ne : ∀ b u, B.G b = some u → upd B.G a o b = some u := fun b u h => by rw [upd_ne (ne_of_none h hg)]; exact h
  exact ⟨⟨r.sub, r.len, r.dat, r.own, r.sep, r.par, r.f0, r.fresh, r.keep, fun b u h => r.grd b u (ne b u h), r.pz, fun b u h => r.gz b u (ne b u h)⟩, q1, q2, r.gz a o h0, q3⟩
theorem backD_val {ρ ρ' : Env} {i : Nat} : ∀ {vs : List Nat}, i ∈ vs → i < ρ'.length → (backD ρ ρ' vs)[i]? = some (ρ[i]?.getD none)
  | v :: vs, h, hl => by
    unfold backD
    by_cases e : v = i
    · subst e
      exact List.getElem?_set_self (by rw [backD_len]; exact hl)
    · rw [List.getElem?_set_ne e]
      exact backD_val ((List.mem_cons.mp h).resolve_left (Ne.symm e)) hl
theorem wipeD_len (ρ : Env) : ∀ vs, (wipeD ρ vs).length = ρ.length
  | [] => rfl
  | v :: vs => by unfold wipeD; rw [List.length_set, wipeD_len ρ vs]
theorem wipeD_at {ρ : Env} {i : Nat} : ∀ {vs : List Nat}, i ∉ vs → (wipeD ρ vs)[i]? = ρ[i]?
  | [], _ => rfl
  | v :: vs, h => by
    unfold wipeD
    rw [List.getElem?_set_ne (fun z => h (by rw [z]; exact List.mem_cons_self))]
    exact wipeD_at fun z => h (List.mem_cons_of_mem _ z)
theorem backD_wipe (ρ ρ' : Env) (vs : List Nat) : backD ρ (wipeD ρ' vs) vs = backD ρ ρ' vs := by
  apply List.ext_getElem?
  intro i
  by_cases hi : i ∈ vs
  · by_cases hl : i < ρ'.length
    · rw [backD_val hi hl, backD_val hi (by rw [wipeD_len]; exact hl)]
    · rw [List.getElem?_eq_none (by rw [backD_len, wipeD_len]; omega), List.getElem?_eq_none (by rw [backD_len]; omega)]
  · rw [backD_at hi, backD_at hi, wipeD_at hi]
theorem only_wipe {σ σ2 : L2.St} {ts vs : List Nat} (h : Only ts (L2.wipe σ vs) σ2) (hs : ∀ i, i ∈ ts → i ∈ vs) : L2.wipe σ2 vs = L2.wipe σ vs := by
  apply List.ext_getElem?
  intro i
  by_cases hi : i ∈ vs
  · by_cases hl : i < σ.length
    · have l1 : i < (L2.wipe σ2 vs).length := by rw [wipe_length, h.1, wipe_length]; exact hl
      have l2 : i < (L2.wipe σ vs).length := by rw [wipe_length]; exact hl
      rw [List.getElem?_eq_getElem l1, List.getElem?_eq_getElem l2, wipe_in hi _ (List.getElem?_eq_getElem l1), wipe_in hi _ (List.getElem?_eq_getElem l2)]
    · rw [List.getElem?_eq_none (by rw [wipe_length, h.1, wipe_length]; omega), List.getElem?_eq_none (by rw [wipe_length]; omega)]
  · rw [wipe_at hi, h.2 i fun z => hi (hs i z), wipe_at hi]
/-! [elt for tg in iter if ..] -/
variable {fi : Env → R (List D)} {set1 : D → Env → Option Env} {tt : Env → R Bool} {fe : Env → R D}
theorem spec_lc {ts vs : List Nat} {σ : L2.St} {H : Hp} {Q : VK} (hv : ∀ v, v ∈ vs → v ∉ O) (hts : ∀ i, i ∈ ts → i ∈ vs) (p : OSpec X.K X.mg W O (fLc vs fi set1 tt fe) σ H Q) :
    tLc (ISpec X.K X.mg W O fi) (GSpec X.K O ts set1) (TSpec X.K X.mg W0 O tt) (ESpec X.K X.mg W0 O fe) vs σ H Q := by
  obtain ⟨B, ρ, F, rp, p⟩ := p
  refine ⟨B, ρ, F, rp, p.bind.imp fun ds ρ1 F1 H1 _ e1 rp1 p1 J J1 Dl hD => ?_⟩
  cases hL : lcL set1 tt fe vs ds [] ρ1 with
  | bad => rw [hL] at p1; exact p1.elim
  | exc c d ρ2 => rw [hL] at p1; exact p1.elim
  | ok accF ρF =>
    rw [hL] at p1
    have gD : B.G Dl = none := by
      cases e : B.G Dl with
      | none => rfl
      | some u =>
        have q := (rp1.grd Dl u e).1
        rw [hD] at q
        cases q
    refine ⟨fun i m H' => m = ds.length - i ∧ i ≤ ds.length ∧ ∃ acc accD ρ' F', Ex F1 F' ∧ Rep X.K { B with G := upd B.G Dl (.lst acc) } O (wipeD ρ' vs) (L2.wipe σ vs) F' H' ∧ RpA X.K F' acc accD ∧ lcL set1 tt fe vs (ds.drop i) accD ρ' = .ok accF ρF,
      ⟨ds.length, by simp, Nat.zero_le _, [], [], ρ1, F1, Ex.refl F1, (rp1.newGuard hD).wipe hv, .nil, hL⟩, ?_⟩
    rintro i m H' ⟨rfl, hi, acc, accD, ρ', F', ex, r', ha, hL'⟩
    by_cases hlt : i < ds.length
    · refine .inr ⟨J1.go F' H' i ex r'.sub hlt, fun H2 => ∃ acc accD ρ' F', Ex F1 F' ∧ Rep X.K { B with G := upd B.G Dl (.lst acc) } O (wipeD ρ' vs) (L2.wipe σ vs) F' H2 ∧ RpA X.K F' acc accD ∧ lcL set1 tt fe vs (ds.drop (i + 1)) accD ρ' = .ok accF ρF,
        fun H2 q => ⟨ds.length - (i + 1), by omega, rfl, hlt, q⟩, fun x H2 y => ?_⟩
      obtain ⟨d, F2, h1, ex2, r2, hx⟩ := J1.yld _ O _ _ F' H' i x H2 ex r' y hlt
      have hd : ds.drop i = d :: ds.drop (i + 1) := by
        rw [List.drop_eq_getElem_cons hlt]
        rw [List.getElem?_eq_getElem hlt] at h1
        rw [Option.some.inj h1]
      rw [hd] at hL'
      cases hs1 : set1 d (wipeD ρ' vs) with
      | none => simp only [lcL, hs1] at hL'; cases hL'
      | some ρ2 =>
        refine ⟨_, _, F2, d, ρ2, r2, hx, hs1, fun σ2 r3 o3 => ⟨only_wipe o3 hts, _, ρ2, F2, r3, ?_⟩⟩
        have ow := only_wipe o3 hts
        cases ht : tt ρ2 with
        | bad => simp only [lcL, hs1, ht] at hL'; cases hL'
        | exc c u ρ3 => simp only [lcL, hs1, ht] at hL'; cases hL'
        | ok b ρ3 =>
          intro F3 H3 e3 r4
          cases b with
          | false =>
            have hL2 : lcL set1 tt fe vs (ds.drop (i + 1)) accD ρ3 = .ok accF ρF := by simp only [lcL, hs1, ht] at hL'; exact hL'
            have r5 := r4.wipe hv
            rw [ow] at r5
            exact iteF ⟨acc, accD, ρ3, F3, ex.trans (ex2.trans e3), r5, ha.up (ex2.trans e3), hL2⟩
          | true =>
            refine iteT ⟨_, ρ3, F3, r4, ?_⟩
            cases hf : fe ρ3 with
            | bad => simp only [lcL, hs1, ht, hf] at hL'; cases hL'
            | exc c u ρ4 => simp only [lcL, hs1, ht, hf] at hL'; cases hL'
            | ok z ρ4 =>
              intro F4 H4 e4 r6 v hz
              have hg : upd B.G Dl (.lst acc) Dl = some (.lst acc) := upd_same
              have hl : accD.length < 100000 := by
                simp only [lcL, hs1, ht, hf] at hL'
                split at hL'
                · assumption
                · cases hL'
              have hL2 : lcL set1 tt fe vs (ds.drop (i + 1)) (accD ++ [z]) ρ4 = .ok accF ρF := by
                simp only [lcL, hs1, ht, hf, if_pos hl] at hL'
                exact hL'
              have r7 := (Rep.guard (o' := .lst (acc ++ [v])) r6 hg).wipe hv
              rw [ow] at r7
              have r8 : Rep X.K { B with G := upd B.G Dl (.lst (acc ++ [v])) } O (wipeD ρ4 vs) (L2.wipe σ vs) F4 (upd H4 Dl (.lst (acc ++ [v]))) := by
                have e : upd (upd B.G Dl (.lst acc)) Dl (.lst (acc ++ [v])) = upd B.G Dl (.lst (acc ++ [v])) := upd_upd
                have r7' : Rep X.K { B with G := upd (upd B.G Dl (.lst acc)) Dl (.lst (acc ++ [v])) } O (wipeD ρ4 vs) (L2.wipe σ vs) F4 (upd H4 Dl (.lst (acc ++ [v]))) := r7
                rw [e] at r7'
                exact r7'
              refine ⟨acc, (r6.grd Dl _ hg).1, Evl.sz_lt (by rw [ha.length]; exact hl), acc ++ [v], accD ++ [z], ρ4, F4, ex.trans (ex2.trans (e3.trans e4)), r8, (ha.up (ex2.trans (e3.trans e4))).append (.one hz), hL2⟩
    · have e : i = ds.length := by omega
      subst e
      rw [List.drop_length] at hL'
      simp only [lcL] at hL'
      cases hL'
      obtain ⟨r3, q1, q2, q4, q3⟩ := r'.unGuard gD
      have r4 := Rep.unwipe rp1 r3 ex hv (fun i hi => wipe_at hi) (by rw [wipe_length])
      rw [backD_wipe] at r4
      refine .inl ⟨J1.stop F' H' _ ex r'.sub (Nat.le_refl _), p1 F' H' ex r4 Dl (.lst acc) ⟨q1, q2, .lst ha, q4, gD, fun j hj z => ?_⟩⟩
      refine q3 j hj ?_
      rw [wipe_at (fun w => hv j w hj)]
      exact z
theorem do_lc {ts : List Nat} {elt tg iter : Expr} {ifs : List Expr} {scope : Scope} {sl : List (Str × Nat)} (hc : X.calm = true) (hN : X.N.Nodup) (hi : DI X W O tg iter fi) (ok : BlkOk X.N X.env.scope scope sl)
    (hg : ∀ (s : Shared) (H : Hp) (C : Addr) (cl : List (Str × Addr)) (fp : List Addr), DG (X.blk s H scope (compEnvC scope cl C X.env) fp) O ts tg set1) (ht : ∀ (s : Shared) (H : Hp) (C : Addr) (cl : List (Str × Addr)) (fp : List Addr), DTs (X.blk s H scope (compEnvC scope cl C X.env) fp) W0 O ifs tt)
    (he : ∀ (s : Shared) (H : Hp) (C : Addr) (cl : List (Str × Addr)) (fp : List Addr), DE (X.blk s H scope (compEnvC scope cl C X.env) fp) W0 O elt fe)
    (hv : ∀ v, v ∈ sl.map (·.2) → v ∉ O) (hts : ∀ i, i ∈ ts → i ∈ sl.map (·.2)) (hs : ∀ x, foldedSetIterable iter X.env x = pure x := by intro _; rfl) :
    DO X W O (.ListComp elt [⟨tg, iter, ifs, 0⟩] scope pos) (fLc (sl.map (·.2)) fi set1 tt fe) :=
  ⟨pe_imp (pe_lc (te := ESpec X.K X.mg W0 O fe) (tt := TSpec X.K X.mg W0 O tt) (g := GSpec X.K O ts set1) hc hN hi.pi ok (fun s H C cl fp => (hg s H C cl fp).pg) (fun s H C cl fp => (ht s H C cl fp).pts) (fun s H C cl fp => (he s H C cl fp).pe) hs) fun _ _ _ p => spec_lc hv hts p⟩
/-- name = [..] on one line -/
theorem ds_setLc (i : Nat) {y : Str} {py : Pos} {ts : List Nat} {elt tg iter : Expr} {ifs : List Expr} {scope : Scope} {sl : List (Str × Nat)} {spos : Pos} (hc : X.calm = true) (hN : X.N.Nodup) (hy : X.N[i]? = some y) (hyl : X.env.scope.names.lookup y = some .local)
    (hsw : swapsWith (.ListComp elt [⟨tg, iter, ifs, 0⟩] scope pos) (some (.Name y py)) spos.line X.env = pure true) (hi : DI X W O tg iter fi) (ok : BlkOk X.N X.env.scope scope sl)
    (hg : ∀ (s : Shared) (H : Hp) (C : Addr) (cl : List (Str × Addr)) (fp : List Addr), DG (X.blk s H scope (compEnvC scope cl C X.env) fp) O ts tg set1) (ht : ∀ (s : Shared) (H : Hp) (C : Addr) (cl : List (Str × Addr)) (fp : List Addr), DTs (X.blk s H scope (compEnvC scope cl C X.env) fp) W0 O ifs tt)
    (he : ∀ (s : Shared) (H : Hp) (C : Addr) (cl : List (Str × Addr)) (fp : List Addr), DE (X.blk s H scope (compEnvC scope cl C X.env) fp) W0 O elt fe)
    (ho : decide (i ∈ O) = false) (hv : ∀ v, v ∈ sl.map (·.2) → v ∉ O) (hts : ∀ i, i ∈ ts → i ∈ sl.map (·.2)) (hs : ∀ x, foldedSetIterable iter X.env x = pure x := by intro _; rfl) :
    DS X W own Ol O (.Assign [.Name y py] (.ListComp elt [⟨tg, iter, ifs, 0⟩] scope pos) spos) O (sSet i (fLc (sl.map (·.2)) fi set1 tt fe)) := by
  refine ⟨ps_imp (ps_setLc (te := ESpec X.K X.mg W0 O fe) (tt := TSpec X.K X.mg W0 O tt) (g := GSpec X.K O ts set1) hc hN hy hyl hsw hi.pi ok (fun s H C cl fp => (hg s H C cl fp).pg) (fun s H C cl fp => (ht s H C cl fp).pts) (fun s H C cl fp => (he s H C cl fp).pe) hs) fun E σ H p => ?_⟩
  refine spec_lc (W := W) hv hts ?_
  obtain ⟨B, ρ, F, rp, p⟩ := p
  refine ⟨B, ρ, F, rp, (SPost.val p).imp fun d ρ1 F1 H1 _ e1 rp1 p1 a o m => ?_⟩
  obtain ⟨ex, r2, hr⟩ := rp1.adopt m
  exact p1 _ _ H1 ex (r2.store (of_decide_eq_false ho) hr)
theorem ds_setLcO (i : Nat) {y : Str} {py : Pos} {ts : List Nat} {elt tg iter : Expr} {ifs : List Expr} {scope : Scope} {sl : List (Str × Nat)} {spos : Pos} (hc : X.calm = true) (hN : X.N.Nodup) (hy : X.N[i]? = some y) (hyl : X.env.scope.names.lookup y = some .local)
    (hsw : swapsWith (.ListComp elt [⟨tg, iter, ifs, 0⟩] scope pos) (some (.Name y py)) spos.line X.env = pure true) (hi : DI X W O tg iter fi) (ok : BlkOk X.N X.env.scope scope sl)
    (hg : ∀ (s : Shared) (H : Hp) (C : Addr) (cl : List (Str × Addr)) (fp : List Addr), DG (X.blk s H scope (compEnvC scope cl C X.env) fp) O ts tg set1) (ht : ∀ (s : Shared) (H : Hp) (C : Addr) (cl : List (Str × Addr)) (fp : List Addr), DTs (X.blk s H scope (compEnvC scope cl C X.env) fp) W0 O ifs tt)
    (he : ∀ (s : Shared) (H : Hp) (C : Addr) (cl : List (Str × Addr)) (fp : List Addr), DE (X.blk s H scope (compEnvC scope cl C X.env) fp) W0 O elt fe)
    (ho : decide (i ∈ O) = false) (hv : ∀ v, v ∈ sl.map (·.2) → v ∉ O) (hts : ∀ i, i ∈ ts → i ∈ sl.map (·.2)) (hs : ∀ x, foldedSetIterable iter X.env x = pure x := by intro _; rfl) :
    DS X W own Ol O (.Assign [.Name y py] (.ListComp elt [⟨tg, iter, ifs, 0⟩] scope pos) spos) (i :: O) (sSetO i (fLc (sl.map (·.2)) fi set1 tt fe)) := by
  refine ⟨ps_imp (ps_setLc (te := ESpec X.K X.mg W0 O fe) (tt := TSpec X.K X.mg W0 O tt) (g := GSpec X.K O ts set1) hc hN hy hyl hsw hi.pi ok (fun s H C cl fp => (hg s H C cl fp).pg) (fun s H C cl fp => (ht s H C cl fp).pts) (fun s H C cl fp => (he s H C cl fp).pe) hs) fun E σ H p => ?_⟩
  refine spec_lc (W := W) hv hts ?_
  obtain ⟨B, ρ, F, rp, p⟩ := p
  refine ⟨B, ρ, F, rp, (SPost.val p).imp fun d ρ1 F1 H1 _ e1 rp1 p1 a o m => ?_⟩
  split at p1
  · next hl =>
    obtain ⟨m1, m2, m3, m4, m6, m5⟩ := m
    exact p1 _ F1 H1 (Ex.refl F1) (rp1.take (of_decide_eq_false ho) hl m1 m2 m3 m4 m6 m5)
  · exact p1.elim
end
end DL


namespace DL
open PySem PySem.Spec PyProof.Rows L2
open Evl (Ex)

/-! ### what a call does to the caller's heap -/
structure Grow (F H F' H' : Hp) (ex : Addr → Prop) : Prop where
  f : Ex F F'
  s : Ex F' H'
  n : ∀ a, H a ≠ none → F a = none → F' a = none
  k : ∀ a o, H a = some o → ¬ ex a → H' a = some o
def R0.is (r : R0) : Prop := r ≠ .bad
/-- a def all of whose arguments are data -/
def SpP (K : PySem.W.Frag) (mg : MG) (own : Bool) (g : List D → R0) : Sp := fun vs H Q E => ∃ F ds, Ex F H ∧ RpA K F vs ds ∧ match g ds with
  | .ok d => ∀ F' H', Grow F H F' H' (fun _ => False) → RetQ K own H F' H' d Q
  | .exc c d => ∀ cl dx F' H', mg c = some cl → Grow F H F' H' (fun _ => False) → ExcHeld K d dx F' H' → E cl dx H'
  | .bad => False
/-- a def that changes the list which is its first argument -/
def SpG (K : PySem.W.Frag) (own : Bool) (g : List D → R1) : Sp := fun vs H Q _ => ∃ F a ws ds o c, vs = V.ref a :: ws ∧ Ex F H ∧ F a = none ∧ H a = some o ∧ Held K F o c ∧ RpA K F ws ds ∧ match g (c :: ds) with
  | .ok d c' => ∀ F' H', Grow F H F' H' (fun b => b = a) → (∃ o', H' a = some o' ∧ F' a = none ∧ Held K F' o' c') → RetQ K own H F' H' d Q
  | .bad => False
@[simp] def startD (N : List Str) (ds : List D) : Env := ds.map some ++ List.replicate (N.length - ds.length) none
@[simp] def outP (own : Bool) (o : Out) : R0 := match o with
  | .rt d _ => .ok d
  | .nx _ => if own = true then .bad else .ok .non
  | .exc c d _ => .exc c d
  | _ => .bad
@[simp] def outG (own : Bool) (o : Out) : R1 := match o with
  | .rt d ρ => match ρ[0]? with
    | some (some c) => .ok d c
    | _ => .bad
  | .nx ρ => if own = true then .bad else match ρ[0]? with
    | some (some c) => .ok .non c
    | _ => .bad
  | _ => .bad
@[simp] def defD (N : List Str) (n : Nat) (own : Bool) (g : Env → Out) (ds : List D) : R0 := if ds.length = n then outP own (g (startD N ds)) else .bad
@[simp] def genD (N : List Str) (n : Nat) (own : Bool) (g : Env → Out) (ds : List D) : R1 := if ds.length = n then outG own (g (startD N ds)) else .bad

section
variable {K : PySem.W.Frag} {mg : MG}
theorem start_at {N : List Str} {vs : List V} {ds : List D} {F : Hp} (ha : RpA K F vs ds) (i : Nat) (d : D) (h : (startD N ds)[i]? = some (some d)) : ∃ v, (L2.start N vs)[i]? = some (some v) ∧ Rp K F v d := by
  have hl := ha.length
  unfold startD at h
  by_cases hi : i < ds.length
  · rw [List.getElem?_append_left (by rw [List.length_map]; exact hi), List.getElem?_map] at h
    cases e : ds[i]? with
    | none => rw [e] at h; cases h
    | some d' =>
      rw [e] at h
      cases h
      obtain ⟨v, h1, h2⟩ := ha.get' e
      refine ⟨v, ?_, h2⟩
      unfold L2.start
      rw [List.getElem?_append_left (by rw [List.length_map, hl]; exact hi), List.getElem?_map, h1]
      rfl
  · rw [List.getElem?_append_right (by rw [List.length_map]; omega), List.getElem?_replicate] at h
    split at h <;> cases h
theorem start_len {N : List Str} {vs : List V} {ds : List D} (hl : vs.length = ds.length) : (startD N ds).length = (L2.start N vs).length := by
  unfold startD L2.start
  rw [List.length_append, List.length_append, List.length_map, List.length_map, List.length_replicate, List.length_replicate, hl]
theorem Rep.grow {B : Base} {O : List Nat} {ρ : Env} {σ : L2.St} {F H : Hp} (r : Rep K ⟨F, H, [], fun _ => none⟩ O ρ σ F' H') : Grow F H F' H' (fun _ => False) :=
  ⟨r.f0, r.sub, fun a h1 h2 => r.fresh a h1 h2, fun a o h _ => r.keep a o h fun p hp => (nomatch hp)⟩
end

/-! ### a def whose code may ask who else is being shown: nobody is -/
structure FnG (P : Program) (w : World) (K : PySem.W.Frag) (mg : MG) (base : Heap) (k : Nat) (f : Addr) (fd : FuncData) (ps : List Str) (sp : Sp) : Prop where
  len : ∀ vs H Q E, sp vs H Q E → vs.length = ps.length
  run : ∀ (A : Around) (outer : List PySem.Env) (s : Shared) (H : Hp) (args : Args) (us : List Value) (vs : List V) (Q : VK) (E : XK),
    A.guards = some [] → Room k A → Env0 P w K mg base A outer s H → BindsTo s fd args (ps.zip us) → Vals vs us → sp vs H Q E →
    codeAny (model P w) A (.call (.ref f) args) (CR (L2.CX P w) outer P w H s Q E) s
section
variable {P : Program} {w : World} {K : PySem.W.Frag} {mg : MG} {base : Heap}
theorem FnG.mono {j k : Nat} {f : Addr} {fd : FuncData} {ps : List Str} {sp : Sp} (G : FnG P w K mg base j f fd ps sp) (h : j ≤ k) : FnG P w K mg base k f fd ps sp :=
  ⟨G.len, fun A outer s H args us vs Q E ga rm => G.run A outer s H args us vs Q E ga (rm.mono h)⟩
theorem fg_of {x qual : Str} {st : Stmt} {f : Addr} {fd : FuncData} {N ps : List Str} {k : Nat} {sp : Sp} (F : Fun K x qual st f fd) (S : FnScope N ps (defScope st)) (len : ∀ vs H Q E, sp vs H Q E → vs.length = ps.length)
    (body : ∀ (cdv : Value) (A : Around) (outer : List PySem.Env) (s : Shared) (H : Hp) (vs : List V) (Q : VK) (E : XK), A.guards = some [] → Room k (A.deeper (envOfC qual (defScope st) s.heap.objs.size f cdv)) → sp vs H Q E →
      ∃ t, PSs (cxOf (L2.CX P w) P w K mg base N qual (defScope st) f cdv A outer s H E) (defBody st) t ∧ t { nx := fun _ H' => Q .non H', rt := Q } (L2.start N vs) H) : FnG P w K mg base (k + 1) f fd ps sp := by
  obtain ⟨c0, d0, w0, x0, p0, a0, cd0, t0, sl0, eq0, look0, code0⟩ := F.ex
  subst eq0
  constructor
  · exact len
  intro A outer s H args us vs Q E ga rm ev bd rl hsp
  have many := len _ _ _ _ hsp
  have kin : K.In s.heap := ev.mod.kin.keeps fun b o z => (ev.bs b o z).1
  have nolim : s.heap.NoLimit := ev.mod.nolimit.keeps fun b o z => (ev.bs b o z).1
  refine codeAny_call_function rm.depth (kin _ _ look0) rfl S.co S.gen rfl (PySem.W.codeRec_of kin code0) (bd _ _ _ _ ?_)
  refine wpAny_newFunctionEnv_cells S.kind (fun y hy => ?_) fun env0 henv s1 inn => ?_
  · obtain ⟨n, v⟩ := y
    have hn := S.par n (List.of_mem_zip hy).1
    cases hn with
    | inl q => exact .inl q
    | inr q => exact .inr ⟨q, PySem.W.cellsFrom_some _ _ _ (.inl q)⟩
  subst henv
  refine ⟨nolim.keeps inn.toInCall.keep, codeAny_func ?_⟩
  obtain ⟨t, hb, hq⟩ := body cd0 A outer s H vs Q E ga (rm.deeper _) hsp
  have J := inv_start (CX := L2.CX P w) (P := P) (w := w) (K := K) (mg := mg) (base := base) (E := E) (H := H) (outer := outer) S rm.hd ev many rl inn
  have fin : ∀ {σ2 : L2.St} {H2 : Hp} {v : V} {u : Value} {s2 : Shared}, Inv (cxOf (L2.CX P w) P w K mg base N qual (defScope st) f cd0 A outer s H E) [] σ2 H2 s2 → RelV v u → Q v H2 → CE outer P w H s Q u s2 :=
    fun {_ H2 v _ _} J2 rv q => ⟨v, H2, J2.os, J2.bare, J2.base, J2.hok, rv, q⟩
  refine wpAny_mono (hb.run [] s1 (L2.start N vs) H _ J hq) (fun fl s2 z => ?_) fun e s2 z => z
  cases fl with
  | next =>
    obtain ⟨σ2, H2, J2, q⟩ := z
    exact fin (v := V.non) (u := Value.none) J2 rfl q
  | ret u =>
    obtain ⟨v, σ2, H2, J2, rv, q⟩ := z
    exact fin J2 rv q
  | brk => exact (z.choose_spec.choose_spec.2 : False).elim
  | cont => exact (z.choose_spec.choose_spec.2 : False).elim
end
section
variable {X : Cx} {k : Nat} {f : Addr} {fd : FuncData} {ps : List Str} {sp : Sp} {E : L2.St → XK} {x : Str} {p pos : Pos} {e : Expr} {es : List Expr} {t : TA}
theorem run_g {pins : List (Addr × Obj)} {σ : L2.St} {H : Hp} {s : Shared} {Q : VK} {args : Args} {us : List Value} {vs : List V} {E1 : XK} (G : FnG X.prog X.w X.K X.mg X.base k f fd ps sp) (ga : X.A.guards = some []) (hr : Room k X.A)
    (hx : PassesAt (L2.CX X.prog X.w) X σ E1) (I : Inv X pins σ H s) (bd : BindsTo s fd args (ps.zip us)) (r : Vals vs us) (h : sp vs H Q E1) : wpAny (model X.prog X.w) X.A (call (.ref f) args.pos args.kw) (EP X pins σ Q) X.xe s := by
  refine wpAny_call (codeAny_mono (G.run X.A X.stack s H args us vs Q E1 ga hr I.env0 bd r h) fun res s2 z => ?_)
  rcases res with ex | fl
  · exact hx pins H s ex s2 I z
  · cases fl with
    | ret u => exact I.after z
    | _ => exact False.elim z
/-- every parameter is written, no keyword -/
theorem binds_us {K : PySem.W.Frag} {s : Shared} {us : List Value} (hb : Binds K fd ps []) (X : K.In s.heap) (hl : us.length = ps.length) : BindsTo s fd ⟨us, []⟩ (ps.zip us) := by
  have q := hb s us X (by rw [List.append_nil]; exact hl)
  rw [List.append_nil] at q
  exact q
theorem pg_call (G : FnG X.prog X.w X.K X.mg X.base k f fd ps sp) (ga : X.A.guards = some []) (hr : Room k X.A) (hg : Gl X x) (hm : X.mg x = some (.ref f)) (hk : PySem.W.keepIn X.K (.ref f) = true) (hb : Binds X.K fd ps [])
    (hx : ∀ σ, PassesAt (L2.CX X.prog X.w) X σ (E σ)) (ha : PA X (e :: es) t) (hdb : (x == ("__debug__" : Str)) = false := by decide)
    (he : starEach (e :: es) X.env = (false, eval e X.env) :: starEach es X.env := by rfl) (hpl : (backTo pos (starEach es X.env)).any (·.1) = false := by rfl) :
    PE X (.Call (.Name x p) (e :: es) [] pos) (tCallS sp E t) := by
  constructor
  intro pins s σ H Q I h
  refine wpAny_Call_Name_kw (ld_glob I hg hm ?_ hdb)
  refine PySem.W.callWith_K (h₀ := X.base) I.ok.mod.kin hk (thn (ha.run pos pins s σ H _ I h) fun us s1 z => ?_) he hpl
  obtain ⟨vs, H1, I1, r1, q1⟩ := z
  have hl : us.length = ps.length := by rw [← r1.length]; exact G.len _ _ _ _ q1
  exact ⟨I1.kIn, run_g (args := ⟨us, []⟩) G ga hr (hx σ) I1 (binds_us hb I1.kIn hl) r1 q1⟩
theorem pg_call0 (G : FnG X.prog X.w X.K X.mg X.base k f fd ps sp) (ga : X.A.guards = some []) (hr : Room k X.A) (hg : Gl X x) (hm : X.mg x = some (.ref f)) (hk : PySem.W.keepIn X.K (.ref f) = true) (hb : Binds X.K fd ps [])
    (hx : ∀ σ, PassesAt (L2.CX X.prog X.w) X σ (E σ)) (hdb : (x == ("__debug__" : Str)) = false := by decide) :
    PE X (.Call (.Name x p) [] [] pos) (tCallS sp E tNil) := by
  constructor
  intro pins s σ H Q I h
  have q1 : sp [] H Q (E σ) := h
  refine wpAny_Call_Name_kw (ld_glob I hg hm ?_ hdb)
  have hl : ([] : List Value).length = ps.length := G.len _ _ _ _ q1
  exact PySem.W.callWith_K0 I.kIn hk (run_g (args := ⟨[], []⟩) G ga hr (hx σ) I (binds_us hb I.kIn hl) .nil q1)
end

section
variable {P : Program} {w : World} {K : PySem.W.Frag} {mg : MG} {base : Heap} {own : Bool}
/-- THE RULE for a def over data -/
theorem fn_pure {x qual : Str} {st : Stmt} {f : Addr} {fd : FuncData} {N ps : List Str} {k : Nat} {g : Env → Out} {O' : List Nat} (F : Fun K x qual st f fd) (S : FnScope N ps (defScope st))
    (hb : ∀ (cdv : Value) (A : Around) (outer : List PySem.Env) (s : Shared) (H : Hp) (E : XK), A.guards = some [] → Room k (A.deeper (envOfC qual (defScope st) s.heap.objs.size f cdv)) →
      DSs (cxOf (L2.CX P w) P w K mg base N qual (defScope st) f cdv A outer s H E) (fun cls d _ H' => E cls d H') own [] [] (defBody st) O' g) : FnG P w K mg base (k + 1) f fd ps (SpP K mg own (defD N ps.length own g)) := by
  refine fg_of F S (fun vs H Q E h => ?_) (fun cdv A outer s H vs Q E ga hr h => ⟨_, (hb cdv A outer s H E ga hr).pss, ?_⟩)
  · obtain ⟨F, ds, h1, h2, h3⟩ := h
    rw [h2.length]
    unfold defD at h3
    by_cases hl : ds.length = ps.length
    · exact hl
    · rw [if_neg hl] at h3
      exact h3.elim
  · obtain ⟨F, ds, h1, h2, h3⟩ := h
    unfold defD at h3
    by_cases hl : ds.length = ps.length
    · rw [if_pos hl] at h3
      have r0 : Rep K ⟨F, H, [], fun _ => none⟩ [] (startD N ds) (L2.start N vs) F H :=
        ⟨h1, start_len h2.length, fun i d e _ => start_at h2 i d e, fun i hi => (nomatch hi), fun i j a hi => (nomatch hi), fun p hp => (nomatch hp), Ex.refl F, fun _ _ h => h, fun _ _ h _ => h, fun _ _ h => (nomatch h), fun _ h => (nomatch h), fun _ _ h => (nomatch h)⟩
      refine ⟨_, _, F, r0, ?_⟩
      show SPost K mg _ own [] O' _ F _ (g (startD N ds))
      cases hg : g (startD N ds) with
      | rt d ρ' =>
        rw [hg] at h3
        exact fun σ' F' H' e r => h3 F' H' (Rep.grow (B := ⟨F, H, [], fun _ => none⟩) r)
      | nx ρ' =>
        rw [hg] at h3
        intro σ' F' H' e r
        cases own with
        | true => exact h3.elim
        | false => exact h3 F' H' (Rep.grow (B := ⟨F, H, [], fun _ => none⟩) r) _ .non
      | exc c d ρ' =>
        rw [hg] at h3
        exact fun O'' cl dx σ' F' H' m e r q => h3 cl dx F' H' m (Rep.grow (B := ⟨F, H, [], fun _ => none⟩) r) q
      | bk ρ' => rw [hg] at h3; exact h3.elim
      | ct ρ' => rw [hg] at h3; exact h3.elim
      | bad => rw [hg] at h3; exact h3.elim
    · rw [if_neg hl] at h3
      exact h3.elim
theorem fn_gen {x qual : Str} {st : Stmt} {f : Addr} {fd : FuncData} {N ps : List Str} {k : Nat} {g : Env → Out} {O' : List Nat} (F : Fun K x qual st f fd) (S : FnScope N ps (defScope st)) (h0 : decide (0 ∈ O') = true)
    (hb : ∀ (cdv : Value) (A : Around) (outer : List PySem.Env) (s : Shared) (H : Hp) (E : XK), A.guards = some [] → Room k (A.deeper (envOfC qual (defScope st) s.heap.objs.size f cdv)) →
      DSs (cxOf (L2.CX P w) P w K mg base N qual (defScope st) f cdv A outer s H E) (fun cls d _ H' => E cls d H') own [] [0] (defBody st) O' g) : FnG P w K mg base (k + 1) f fd ps (SpG K own (genD N ps.length own g)) := by
  refine fg_of F S (fun vs H Q E h => ?_) (fun cdv A outer s H vs Q E ga hr h => ⟨_, (hb cdv A outer s H E ga hr).pss, ?_⟩)
  · obtain ⟨F, a, ws, ds, o, c, rfl, h1, h2, h3, h4, h5, h6⟩ := h
    have e := h5.length
    unfold genD at h6
    by_cases hl : (c :: ds).length = ps.length
    · rw [← hl]
      show ws.length + 1 = ds.length + 1
      rw [e]
    · rw [if_neg hl] at h6
      exact h6.elim
  · obtain ⟨F, a, ws, ds, o, c, rfl, h1, h2, h3, h4, h5, h6⟩ := h
    unfold genD at h6
    by_cases hl : (c :: ds).length = ps.length
    · rw [if_pos hl] at h6
      have r0 : Rep K ⟨F, H, [(0, a)], fun _ => none⟩ [0] (startD N (c :: ds)) (L2.start N (V.ref a :: ws)) F H := by
        refine ⟨h1, ?_, fun i d e hi => ?_, fun i hi => ?_, fun i j b hi hj _ _ => ?_, fun p hp => ?_, Ex.refl F, fun _ _ h => h, fun _ _ h _ => h, fun _ _ h => (nomatch h), fun p hp => ?_, fun _ _ h => (nomatch h)⟩
        · exact start_len (congrArg Nat.succ h5.length)
        · have ni : i ≠ 0 := fun z => hi (by rw [z]; exact List.mem_singleton.mpr rfl)
          obtain ⟨j, rfl⟩ : ∃ j, i = j + 1 := ⟨i - 1, by omega⟩
          have e' : (startD N (c :: ds))[j + 1]? = some (some d) := e
          unfold startD at e'
          by_cases hj : j < ds.length
          · rw [List.getElem?_append_left (by rw [List.length_map]; exact Nat.succ_lt_succ hj), List.getElem?_map, List.getElem?_cons_succ] at e'
            cases e2 : ds[j]? with
            | none => rw [e2] at e'; cases e'
            | some d' =>
              rw [e2] at e'
              cases e'
              obtain ⟨v, k1, k2⟩ := h5.get' e2
              refine ⟨v, ?_, k2⟩
              unfold L2.start
              rw [List.getElem?_append_left (by rw [List.length_map, List.length_cons, h5.length]; exact Nat.succ_lt_succ hj), List.getElem?_map, List.getElem?_cons_succ, k1]
              rfl
          · rw [List.getElem?_append_right (by rw [List.length_map, List.length_cons]; omega), List.getElem?_replicate] at e'
            split at e' <;> cases e'
        · have e := List.mem_singleton.mp hi
          subst e
          exact ⟨a, o, c, rfl, rfl, h3, h2, h4, .inr ⟨(0, a), List.mem_singleton.mpr rfl, rfl⟩⟩
        · rw [List.mem_singleton.mp hi, List.mem_singleton.mp hj]
        · rw [List.mem_singleton.mp hp]
          exact ⟨List.mem_singleton.mpr rfl, rfl⟩
        · rw [List.mem_singleton.mp hp]
      have fin : ∀ {O2 : List Nat} {ρ' : Env} {σ' : L2.St} {F' H' : Hp}, 0 ∈ O2 → Rep K ⟨F, H, [(0, a)], fun _ => none⟩ O2 ρ' σ' F' H' →
          ∃ c', ρ'[0]? = some (some c') ∧ Grow F H F' H' (fun b => b = a) ∧ ∃ o', H' a = some o' ∧ F' a = none ∧ Held K F' o' c' := fun {O2 ρ' σ' F' H'} hO r => by
        obtain ⟨b, o', c', k1, k2, k3, k4, k5, k6⟩ := r.own 0 hO
        have k7 := (r.par (0, a) (List.mem_singleton.mpr rfl)).2
        have k7' : σ'[0]? = some (some (V.ref a)) := k7
        rw [k2] at k7'
        cases k7'
        exact ⟨c', k1, ⟨r.f0, r.sub, fun a h1 h2 => r.fresh a h1 h2, fun b o h ne => r.keep b o h fun p hp => by rw [List.mem_singleton.mp hp]; exact fun z => ne z.symm⟩, o', k3, k4, k5⟩
      refine ⟨_, _, F, r0, ?_⟩
      show SPost K mg _ own [] O' _ F _ (g (startD N (c :: ds)))
      cases hg : g (startD N (c :: ds)) with
      | rt d ρ' =>
        rw [hg] at h6
        intro σ' F' H' e r
        obtain ⟨c', k1, k2, k3⟩ := fin (O2 := [0]) (List.mem_singleton.mpr rfl) r
        simp only [outG, k1] at h6
        exact h6 F' H' k2 k3
      | nx ρ' =>
        rw [hg] at h6
        intro σ' F' H' e r
        obtain ⟨c', k1, k2, k3⟩ := fin (O2 := O') (of_decide_eq_true h0) r
        cases own with
        | true => exact h6.elim
        | false =>
          simp only [outG, k1] at h6
          exact h6 F' H' k2 k3 _ .non
      | exc c d ρ' => rw [hg] at h6; exact h6.elim
      | bk ρ' => rw [hg] at h6; exact h6.elim
      | ct ρ' => rw [hg] at h6; exact h6.elim
      | bad => rw [hg] at h6; exact h6.elim
    · rw [if_neg hl] at h6
      exact h6.elim
end

/-! ### calls -/
section
variable {K : PySem.W.Frag} {B : Base} {O : List Nat} {ρ : Env} {σ : L2.St} {F F' H H' : Hp}
theorem Rep.called (r : Rep K B O ρ σ F H) (g : Grow F H F' H' (fun _ => False)) : Rep K B O ρ σ F' H' := by
  have kp : ∀ a o, H a = some o → H' a = some o := fun a o h => g.k a o h fun z => z
  refine ⟨g.s, r.len, fun i d e hi => ?_, fun i hi => ?_, r.sep, r.par, r.f0.trans g.f, fun a h1 h2 => g.n a (r.there h1) (r.fresh a h1 h2), fun a o h1 h2 => kp a o (r.keep a o h1 h2), fun a o h => ?_, r.pz, r.gz⟩
  · obtain ⟨v, h1, h2⟩ := r.dat i d e hi
    exact ⟨v, h1, h2.up g.f⟩
  · obtain ⟨a, o, d, h1, h2, h3, h4, h5, h6⟩ := r.own i hi
    exact ⟨a, o, d, h1, h2, kp a o h3, g.n a (ne_some h3) h4, h5.up g.f, h6⟩
  · obtain ⟨q1, q2, q3⟩ := r.grd a o h
    exact ⟨kp a o q1, g.n a (ne_some q1) q2, q3⟩
theorem Rep.calledG (r : Rep K B O ρ σ F H) {i : Nat} {a : Addr} (hi : i ∈ O) (hs : σ[i]? = some (some (V.ref a))) (g : Grow F H F' H' (fun b => b = a)) {o' : HO} {c' : D} (k1 : H' a = some o') (k2 : F' a = none) (k3 : Held K F' o' c') : Rep K B O (ρ.set i (some c')) σ F' H' := by
  obtain ⟨a0, o0, d0, g1, g2, g3, g4, g5, g6⟩ := r.own i hi
  rw [hs] at g2
  cases g2
  have hl : i < ρ.length := (List.getElem?_eq_some_iff.mp g1).1
  have kp : ∀ b o, b ≠ a → H b = some o → H' b = some o := fun b o nb h => g.k b o h nb
  refine ⟨g.s, by rw [List.length_set]; exact r.len, fun j d e hj => ?_, fun j hj => ?_, r.sep, r.par, r.f0.trans g.f, fun b h1 h2 => g.n b (r.there h1) (r.fresh b h1 h2), fun b o h1 h2 => ?_, fun b o h => ?_, r.pz, r.gz⟩
  · rcases set_some e with ⟨rfl, _⟩ | ⟨nj, e⟩
    · exact absurd hi hj
    · obtain ⟨v, h1, h2⟩ := r.dat j d e hj
      exact ⟨v, h1, h2.up g.f⟩
  · by_cases e : j = i
    · subst e
      exact ⟨a, o', c', List.getElem?_set_self hl, hs, k1, k2, k3, g6⟩
    · obtain ⟨b, o, d, h1, h2, h3, h4, h5, h6⟩ := r.own j hj
      have hb : b ≠ a := fun z => e (r.sep j i a hj hi (by rw [← z]; exact h2) hs)
      exact ⟨b, o, d, by rw [List.getElem?_set_ne (Ne.symm e)]; exact h1, h2, kp b o hb h3, g.n b (ne_some h3) h4, h5.up g.f, h6⟩
  · refine kp b o (fun z => ?_) (r.keep b o h1 h2)
    rcases g6 with g6 | ⟨p, hp, e⟩
    · rw [z, g6] at h1; cases h1
    · exact h2 p hp (by rw [e, z])
  · obtain ⟨q1, q2, q3⟩ := r.grd b o h
    exact ⟨kp b o (fun z => q3 i hi (by rw [z]; exact hs)) q1, g.n b (ne_some q1) q2, q3⟩
end
@[simp] def toR (r : R0) (ρ : Env) : R D := match r with
  | .ok d => .ok d ρ
  | .exc c d => .exc c d ρ
  | .bad => .bad
/-- f(e, ..) -/
@[simp] def fCall (g : List D → R0) (fr : Env → R (List D)) (ρ : Env) : R D := (fr ρ).bind fun ds ρ1 => toR (g ds) ρ1
/-- f(name, e, ..), what name has is changed -/
@[simp] def fCallG (i : Nat) (g : List D → R1) (fr : Env → R (List D)) (ρ : Env) : R D := (fr ρ).bind fun ds ρ1 => match ρ1[i]? with
  | some (some c) => match g (c :: ds) with
    | .ok d c' => .ok d (ρ1.set i (some c'))
    | .bad => .bad
  | _ => .bad
/-- f(g(..), e, ..), the first argument a new thing -/
@[simp] def fCallN (g : List D → R1) (fo : Env → R D) (fr : Env → R (List D)) (ρ : Env) : R D := (fo ρ).bind fun c ρ1 => (fr ρ1).bind fun ds ρ2 => match g (c :: ds) with
  | .ok d _ => .ok d ρ2
  | .bad => .bad
section
variable {X : Cx} {W : WX} {O : List Nat} {k : Nat} {f : Addr} {fd : FuncData} {ps : List Str} {x : Str} {p pos : Pos} {e : Expr} {es : List Expr} {fa fo : Env → R D} {fr : Env → R (List D)} {g : List D → R0} {gg : List D → R1}
theorem spec_call {E : L2.St → XK} (hE : ∀ σ cl dx H, W cl dx σ H → E σ cl dx H) {σ : L2.St} {H : Hp} {Q : VK} (p : ESpec X.K X.mg W O (fCall g fr) σ H Q) : tCallS (SpP X.K X.mg false g) E (ASpec X.K X.mg W O fr) σ H Q := by
  obtain ⟨B, ρ, F, rp, p⟩ := p
  refine ⟨B, ρ, F, rp, p.bind.imp fun ds ρ1 F1 H1 _ e1 rp1 p1 vs hvs => ⟨F1, ds, rp1.sub, hvs, ?_⟩⟩
  cases hg : g ds with
  | ok d =>
    rw [hg] at p1
    exact fun F' H' gr v hv => p1 F' H' gr.f (rp1.called gr) v hv
  | exc c d =>
    rw [hg] at p1
    exact fun cl dx F' H' m gr q => hE _ _ _ _ (p1 cl dx F' H' m gr.f (rp1.called gr) q)
  | bad => rw [hg] at p1; exact p1.elim
theorem de_call (G : FnG X.prog X.w X.K X.mg X.base k f fd ps (SpP X.K X.mg false g)) (ga : X.A.guards = some []) (hr : Room k X.A) (hm : X.mg x = some (.ref f)) (hk : PySem.W.keepIn X.K (.ref f) = true) (hb : Binds X.K fd ps []) (tk : Takes X W)
    (ha : DA X W O (e :: es) fr) (hg : Gl X x := by rfl) (hdb : (x == ("__debug__" : Str)) = false := by decide) (he : starEach (e :: es) X.env = (false, eval e X.env) :: starEach es X.env := by rfl) (hpl : (backTo pos (starEach es X.env)).any (·.1) = false := by rfl) :
    DE X W O (.Call (.Name x p) (e :: es) [] pos) (fCall g fr) :=
  ⟨pe_imp (pg_call G ga hr hg hm hk hb (fun σ => passAt tk σ) ha.pa hdb he hpl) fun _ _ _ p => spec_call (fun _ _ _ _ h => h) p⟩
/-- a call's new thing -/
theorem do_call (G : FnG X.prog X.w X.K X.mg X.base k f fd ps (SpP X.K X.mg true g)) (ga : X.A.guards = some []) (hr : Room k X.A) (hm : X.mg x = some (.ref f)) (hk : PySem.W.keepIn X.K (.ref f) = true) (hb : Binds X.K fd ps []) (tk : Takes X W)
    (ha : DA X W O (e :: es) fr) (hg : Gl X x := by rfl) (hdb : (x == ("__debug__" : Str)) = false := by decide) (he : starEach (e :: es) X.env = (false, eval e X.env) :: starEach es X.env := by rfl) (hpl : (backTo pos (starEach es X.env)).any (·.1) = false := by rfl) :
    DO X W O (.Call (.Name x p) (e :: es) [] pos) (fCall g fr) := by
  refine ⟨pe_imp (pg_call G ga hr hg hm hk hb (fun σ => passAt tk σ) ha.pa hdb he hpl) fun σ H Q p => ?_⟩
  obtain ⟨B, ρ, F, rp, p⟩ := p
  refine ⟨B, ρ, F, rp, p.bind.imp fun ds ρ1 F1 H1 _ e1 rp1 p1 vs hvs => ⟨F1, ds, rp1.sub, hvs, ?_⟩⟩
  cases hg : g ds with
  | ok d =>
    rw [hg] at p1
    intro F' H' gr a o h0 h1 h2 h3
    have ha : ∀ b, H1 b ≠ none → b ≠ a := fun b hb z => hb (by rw [z]; exact h0)
    refine p1 F' H' gr.f (rp1.called gr) a o ⟨h1, h2, h3, ?_, ?_, fun j hj z => ?_⟩
    · cases q : B.H0 a with
      | none => rfl
      | some u => exact absurd h0 (rp1.there (ne_some q))
    · cases q : B.G a with
      | none => rfl
      | some u => exact absurd h0 (ne_some (rp1.grd a u q).1)
    · obtain ⟨b, o', d', _, h4, h5, _⟩ := rp1.own j hj
      rw [z] at h4
      cases h4
      rw [h0] at h5
      cases h5
  | exc c d =>
    rw [hg] at p1
    exact fun cl dx F' H' m gr q => p1 cl dx F' H' m gr.f (rp1.called gr) q
  | bad => rw [hg] at p1; exact p1.elim

/-- f(name, e, ..): what name has is changed -/
theorem spec_callG {own : Bool} {i : Nat} {σ : L2.St} {H : Hp} {vs : List V} {B : Base} {ρ1 : Env} {F1 : Hp} {ds : List D} {a : Addr} {Q : VK} {P : D → Env → Hp → Hp → Prop} {W : WX} {E : XK} (hi : i ∈ O) (hs : σ[i]? = some (some (V.ref a))) (rp1 : Rep X.K B O ρ1 σ F1 H) (hvs : RpA X.K F1 vs ds)
    (p1 : GPost X.K X.mg W O B F1 σ (match ρ1[i]? with
      | some (some c) => match gg (c :: ds) with
        | .ok d c' => R.ok d (ρ1.set i (some c'))
        | .bad => .bad
      | _ => .bad) P) (hP : ∀ d (_ : D) ρ' F' H', Ex F1 F' → Rep X.K B O ρ' σ F' H' → (∀ a', H a' = none → B.H0 a' = none ∧ B.G a' = none ∧ ∀ j, j ∈ O → σ[j]? ≠ some (some (V.ref a'))) → P d ρ' F' H' → RetQ X.K own H F' H' d Q) : SpG X.K own gg (V.ref a :: vs) H Q E := by
  obtain ⟨a0, o, c, g1, g2, g3, g4, g5, g6⟩ := rp1.own i hi
  rw [hs] at g2
  cases g2
  refine ⟨F1, a, vs, ds, o, c, rfl, rp1.sub, g4, g3, g5, hvs, ?_⟩
  rw [g1] at p1
  simp only at p1
  cases hg : gg (c :: ds) with
  | bad => rw [hg] at p1; exact p1.elim
  | ok d c' =>
    rw [hg] at p1
    intro F' H' gr ⟨o', k1, k2, k3⟩
    have r' := rp1.calledG hi hs gr k1 k2 k3
    refine hP d c' _ F' H' gr.f r' (fun b hb => ⟨?_, ?_, fun j hj z => ?_⟩) (p1 F' H' gr.f r')
    · cases q : B.H0 b with
      | none => rfl
      | some u => exact absurd hb (rp1.there (ne_some q))
    · cases q : B.G b with
      | none => rfl
      | some u => exact absurd hb (ne_some (rp1.grd b u q).1)
    · obtain ⟨b', o2, d2, _, h4, h5, _⟩ := rp1.own j hj
      rw [z] at h4
      cases h4
      rw [hb] at h5
      cases h5
theorem de_callG (i : Nat) {y : Str} {py : Pos} (G : FnG X.prog X.w X.K X.mg X.base k f fd ps (SpG X.K false gg)) (ga : X.A.guards = some []) (hr : Room k X.A) (hm : X.mg x = some (.ref f)) (hk : PySem.W.keepIn X.K (.ref f) = true) (hb : Binds X.K fd ps []) (tk : Takes X W)
    (ha : DA X W O es fr) (ho : decide (i ∈ O) = true := by rfl) (hN : X.N[i]? = some y := by rfl) (hv : Vis X.env.scope y := by first | exact Or.inl rfl | exact Or.inr (Or.inl rfl) | exact Or.inr (Or.inr rfl)) (hd : (y == ("__debug__" : Str)) = false := by decide) (hcd : (y == ("__classdict__" : Str)) = false := by decide)
    (hg : Gl X x := by rfl) (hdb : (x == ("__debug__" : Str)) = false := by decide) (he : starEach (.Name y py :: es) X.env = (false, eval (.Name y py) X.env) :: starEach es X.env := by rfl) (hpl : (backTo pos (starEach es X.env)).any (·.1) = false := by rfl) :
    DE X W O (.Call (.Name x p) (.Name y py :: es) [] pos) (fCallG i gg fr) := by
  refine ⟨pe_imp (pg_call G ga hr hg hm hk hb (fun σ => passAt tk σ) (pa_cons (pe_var hN hv hd hcd) ha.pa he) hdb he hpl) fun σ H Q p => ?_⟩
  obtain ⟨B, ρ, F, rp, p⟩ := p
  have hi := of_decide_eq_true ho
  obtain ⟨a, o, c, g1, g2, g3⟩ := rp.own i hi
  refine ⟨V.ref a, g2, B, ρ, F, rp, p.bind.imp fun ds ρ1 F1 H1 _ e1 rp1 p1 vs hvs => ?_⟩
  exact spec_callG (own := false) hi g2 rp1 hvs p1 fun d c ρ' F' H' e r _ h v hv => h v hv
theorem do_callG (i : Nat) {y : Str} {py : Pos} (G : FnG X.prog X.w X.K X.mg X.base k f fd ps (SpG X.K true gg)) (ga : X.A.guards = some []) (hr : Room k X.A) (hm : X.mg x = some (.ref f)) (hk : PySem.W.keepIn X.K (.ref f) = true) (hb : Binds X.K fd ps []) (tk : Takes X W)
    (ha : DA X W O es fr) (ho : decide (i ∈ O) = true := by rfl) (hN : X.N[i]? = some y := by rfl) (hv : Vis X.env.scope y := by first | exact Or.inl rfl | exact Or.inr (Or.inl rfl) | exact Or.inr (Or.inr rfl)) (hd : (y == ("__debug__" : Str)) = false := by decide) (hcd : (y == ("__classdict__" : Str)) = false := by decide)
    (hg : Gl X x := by rfl) (hdb : (x == ("__debug__" : Str)) = false := by decide) (he : starEach (.Name y py :: es) X.env = (false, eval (.Name y py) X.env) :: starEach es X.env := by rfl) (hpl : (backTo pos (starEach es X.env)).any (·.1) = false := by rfl) :
    DO X W O (.Call (.Name x p) (.Name y py :: es) [] pos) (fCallG i gg fr) := by
  refine ⟨pe_imp (pg_call G ga hr hg hm hk hb (fun σ => passAt tk σ) (pa_cons (pe_var hN hv hd hcd) ha.pa he) hdb he hpl) fun σ H Q p => ?_⟩
  obtain ⟨B, ρ, F, rp, p⟩ := p
  have hi := of_decide_eq_true ho
  obtain ⟨a, o, c, g1, g2, g3⟩ := rp.own i hi
  refine ⟨V.ref a, g2, B, ρ, F, rp, p.bind.imp fun ds ρ1 F1 H1 _ e1 rp1 p1 vs hvs => ?_⟩
  exact spec_callG (own := true) hi g2 rp1 hvs p1 fun d c ρ' F' H' e r no h b o h0 h1 h2 h3 => h b o ⟨h1, h2, h3, (no b h0).1, (no b h0).2.1, (no b h0).2.2⟩
theorem Rep.guardMine {K : PySem.W.Frag} {B : Base} {ρ : Env} {σ : L2.St} {F H : Hp} {a : Addr} {o : HO} {d : D} (r : Rep K B O ρ σ F H) (m : Mine K O B σ F H a o d) : Rep K { B with G := upd B.G a o } O ρ σ F H := by
  obtain ⟨m1, m2, m3, m4, m6, m5⟩ := m
  refine ⟨r.sub, r.len, r.dat, r.own, r.sep, r.par, r.f0, r.fresh, r.keep, fun b u h => ?_, r.pz, fun b u h => ?_⟩
  · have h : upd B.G a o b = some u := h
    by_cases hb : b = a
    · subst hb
      rw [upd_same] at h
      cases h
      exact ⟨m1, m2, m5⟩
    · rw [upd_ne hb] at h
      exact r.grd b u h
  · have h : upd B.G a o b = some u := h
    by_cases hb : b = a
    · rw [hb]; exact m4
    · rw [upd_ne hb] at h
      exact r.gz b u h
/-- f(g(..), e, ..): the first argument is a new thing that nobody sees again -/
theorem de_callN {e1 : Expr} (G : FnG X.prog X.w X.K X.mg X.base k f fd ps (SpG X.K false gg)) (ga : X.A.guards = some []) (hr : Room k X.A) (hm : X.mg x = some (.ref f)) (hk : PySem.W.keepIn X.K (.ref f) = true) (hb : Binds X.K fd ps []) (tk : Takes X W)
    (h1 : DO X W O e1 fo) (ha : DA X W O es fr) (hg : Gl X x := by rfl) (hdb : (x == ("__debug__" : Str)) = false := by decide) (he : starEach (e1 :: es) X.env = (false, eval e1 X.env) :: starEach es X.env := by rfl) (hpl : (backTo pos (starEach es X.env)).any (·.1) = false := by rfl) :
    DE X W O (.Call (.Name x p) (e1 :: es) [] pos) (fCallN gg fo fr) := by
  refine ⟨pe_imp (pg_call G ga hr hg hm hk hb (fun σ => passAt tk σ) (pa_cons h1.pe ha.pa he) hdb he hpl) fun σ H Q p => ?_⟩
  obtain ⟨B, ρ, F, rp, p⟩ := p
  refine ⟨B, ρ, F, rp, p.bind.imp fun c ρ1 F1 H1 _ e1 rp1 p1 a o m => ?_⟩
  have gD : B.G a = none := m.2.2.2.2.1
  have p2 := p1.bind
  refine ⟨_, ρ1, F1, rp1.guardMine m, ?_⟩
  cases hf : fr ρ1 with
  | bad => rw [hf] at p2; exact p2.elim
  | exc cc u ρ2 =>
    rw [hf] at p2
    exact fun cl dx F' H' mm x r q => p2 cl dx F' H' mm x (r.unGuard gD).1 q
  | ok ds ρ2 =>
    rw [hf] at p2
    intro F2 H2 e2 r2 vs hvs
    obtain ⟨r3, q1, q2, q4, q3⟩ := r2.unGuard gD
    have p3 : GPost X.K X.mg W O B F2 σ (match gg (c :: ds) with
      | R1.ok d _ => R.ok d ρ2
      | .bad => .bad) (fun d x F' H' => ∀ (v : V), Rp X.K F' v d → Q v H') := p2 F2 H2 e2 r3
    refine ⟨F2, a, vs, ds, o, c, rfl, r3.sub, q2, q1, m.2.2.1.up e2, hvs, ?_⟩
    cases hgg : gg (c :: ds) with
    | bad => rw [hgg] at p3; exact p3.elim
    | ok d c' =>
      rw [hgg] at p3
      intro F' H' gr _ v hv
      have kp : ∀ b u, b ≠ a → H2 b = some u → H' b = some u := fun b u nb h => gr.k b u h nb
      refine p3 F' H' gr.f ⟨gr.s, r3.len, fun i d e hi => ?_, fun i hi => ?_, r3.sep, r3.par, r3.f0.trans gr.f, fun b h1 h2 => gr.n b (r3.there h1) (r3.fresh b h1 h2), fun b u h1 h2 => ?_, fun b u h => ?_, r3.pz, r3.gz⟩ v hv
      · obtain ⟨v, h1, h2⟩ := r3.dat i d e hi
        exact ⟨v, h1, h2.up gr.f⟩
      · obtain ⟨b, u, d, h1, h2, h3, h4, h5, h6⟩ := r3.own i hi
        exact ⟨b, u, d, h1, h2, kp b u (fun z => q3 i hi (by rw [← z]; exact h2)) h3, gr.n b (ne_some h3) h4, h5.up gr.f, h6⟩
      · exact kp b u (fun z => by rw [z, q4] at h1; cases h1) (r3.keep b u h1 h2)
      · obtain ⟨k1, k2, k3⟩ := r3.grd b u h
        exact ⟨kp b u (fun z => by rw [z, gD] at h; cases h) k1, gr.n b (ne_some k1) k2, k3⟩
/-! by keywords alone, no exception let out -/
structure DK (X : Cx) (W : WX) (O : List Nat) (kws : List Keyword) (f : Env → R (List D)) : Prop where
  pk : PK X kws (ASpec X.K X.mg W O f)
theorem pk_imp {kws : List Keyword} {t t' : TA} (h : PK X kws t) (k : ∀ σ H Q, t' σ H Q → t σ H Q) : PK X kws t' := ⟨fun pos pins s σ H Q I q => h.run pos pins s σ H Q I (k σ H Q q)⟩
theorem dk_nil : DK X W O [] aNil := by
  refine ⟨pk_imp pk_nil fun σ H Q p => ?_⟩
  obtain ⟨B, ρ, F, rp, p⟩ := p
  exact p F H (Ex.refl F) rp [] .nil
theorem dk_cons {nm : Option Str} {kpos : Pos} {e : Expr} {kws : List Keyword} (ha : DE X W O e fa) (hr : DK X W O kws fr) : DK X W O (⟨nm, e, kpos⟩ :: kws) (aCons fa fr) := by
  refine ⟨pk_imp (pk_cons ha.pe hr.pk) fun σ H Q p => ?_⟩
  obtain ⟨B, ρ, F, rp, p⟩ := p
  refine ⟨B, ρ, F, rp, p.bind.imp fun d ρ1 F1 H1 _ e1 rp1 p1 x hx => ?_⟩
  refine ⟨B, ρ1, F1, rp1, p1.bind.imp fun ds ρ2 F2 H2 _ e2 rp2 p2 xs hxs => ?_⟩
  exact p2 F2 H2 (Ex.refl F2) rp2 (x :: xs) (.cons (hx.up e2) hxs)
/-- how keywords' values go to the parameters: the j-th parameter takes the (pm j)-th keyword's value -/
@[simp] def permL {α : Type} (pm : List Nat) (zs : List α) : List α := pm.filterMap fun j => zs[j]?
theorem permV {pm : List Nat} : ∀ {zs : List V} {ws : List Value}, Vals zs ws → Vals (permL pm zs) (permL pm ws) := by
  induction pm with
  | nil => intro zs ws h; exact .nil
  | cons j r ih =>
    intro zs ws h
    unfold permL
    rw [List.filterMap_cons, List.filterMap_cons]
    cases e : zs[j]? with
    | none => rw [h.none_of e]; exact ih h
    | some z =>
      obtain ⟨u, h1, h2⟩ := h.get e
      rw [h1]
      exact .cons h2 (ih h)
theorem permD {K : PySem.W.Frag} {F : Hp} {pm : List Nat} : ∀ {zs : List V} {ds : List D}, RpA K F zs ds → RpA K F (permL pm zs) (permL pm ds) := by
  induction pm with
  | nil => intro zs ws h; exact .nil
  | cons j r ih =>
    intro zs ds h
    unfold permL
    rw [List.filterMap_cons, List.filterMap_cons]
    cases e : zs[j]? with
    | none =>
      have e2 : ds[j]? = none := by
        rw [List.getElem?_eq_none_iff] at e ⊢
        rw [← h.length]; exact e
      rw [e2]; exact ih h
    | some z =>
      obtain ⟨u, h1, h2⟩ := h.get e
      rw [h1]
      exact .cons h2 (ih h)
@[simp] def fCallK (g : List D → R0) (pm : List Nat) (n : Nat) (fr : Env → R (List D)) (ρ : Env) : R D := (fr ρ).bind fun ds ρ1 => if ds.length = n then match g (permL pm ds) with
  | .ok d => .ok d ρ1
  | _ => .bad else .bad
/-- every parameter is given by its keyword -/
def KwBinds (K : PySem.W.Frag) (fd : FuncData) (ps ks : List Str) (pm : List Nat) : Prop := ∀ (s : Shared) (ws : List Value), ws.length = ks.length → BindsTo s fd ⟨[], ks.zip ws⟩ (ps.zip (permL pm ws))
theorem de_callK {ks : List Str} {pm : List Nat} {kws : List Keyword} (G : FnG X.prog X.w X.K X.mg X.base k f fd ps (SpP X.K X.mg false g)) (ga : X.A.guards = some []) (hr : Room k X.A) (hm : X.mg x = some (.ref f)) (hk : PySem.W.keepIn X.K (.ref f) = true) (hb : KwBinds X.K fd ps ks pm)
    (hkw : DK X W O kws fr) (hg : Gl X x := by rfl) (hall : (backToKw pos (keywordEach kws X.env)).all (·.1.isSome) = true := by rfl) (hks : (backToKw pos (keywordEach kws X.env)).filterMap (·.1) = ks := by rfl)
    (hdb : (x == ("__debug__" : Str)) = false := by decide) (hpl : ((backTo pos (starEach [] X.env)).any (·.1) || (backToKw pos (keywordEach kws X.env)).any (·.1.isNone)) = false := by rfl) :
    DE X W O (.Call (.Name x p) [] kws pos) (fCallK g pm ks.length fr) := by
  refine ⟨⟨fun pins s σ H Q I h => ?_⟩⟩
  refine wpAny_Call_Name_kw (ld_glob I hg hm ?_ hdb)
  have h2 : ASpec X.K X.mg W O fr σ H fun zs H2 => zs.length = ks.length ∧ SpP X.K X.mg false g (permL pm zs) H2 Q E0 := by
    obtain ⟨B, ρ, F, rp, p⟩ := h
    refine ⟨B, ρ, F, rp, p.bind.imp fun ds ρ1 F1 H1 _ e1 rp1 p1 vs hvs => ?_⟩
    by_cases hl : ds.length = ks.length
    · rw [if_pos hl] at p1
      refine ⟨by rw [hvs.length]; exact hl, F1, permL pm ds, rp1.sub, permD hvs, ?_⟩
      cases hgg : g (permL pm ds) with
      | ok d =>
        rw [hgg] at p1
        exact fun F' H' gr v hv => p1 F' H' gr.f (rp1.called gr) v hv
      | exc c d => rw [hgg] at p1; exact p1.elim
      | bad => rw [hgg] at p1; exact p1.elim
    · rw [if_neg hl] at p1
      exact p1.elim
  refine PySem.W.callWith_KW0 (h₀ := X.base) I.ok.mod.kin hk hall (thn (hkw.pk.run pos pins s σ H _ I h2) fun ws s2 ⟨zs, H2, I2, rz, l1, q2⟩ => ⟨I2.kIn, ?_⟩) hpl
  rw [hks]
  exact run_g (args := ⟨[], ks.zip ws⟩) G ga hr (fun pins H s e s' I z => passL pins σ H s e s' I z) I2 (hb s2 ws (by rw [← rz.length]; exact l1)) (permV rz) q2
/-- f() -/
@[simp] def fCall0 (g : List D → R0) (ρ : Env) : R D := match g [] with
  | .ok d => .ok d ρ
  | _ => .bad
theorem de_call0 (G : FnG X.prog X.w X.K X.mg X.base k f fd ps (SpP X.K X.mg false g)) (ga : X.A.guards = some []) (hr : Room k X.A) (hm : X.mg x = some (.ref f)) (hk : PySem.W.keepIn X.K (.ref f) = true) (hb : Binds X.K fd ps [])
    (hg : Gl X x := by rfl) (hdb : (x == ("__debug__" : Str)) = false := by decide) : DE X W O (.Call (.Name x p) [] [] pos) (fCall0 g) := by
  refine ⟨pe_imp (pg_call0 (E := fun _ => E0) G ga hr hg hm hk hb (fun σ pins H s e s' I z => passL pins σ H s e s' I z) hdb) fun σ H Q p => ?_⟩
  obtain ⟨B, ρ, F, rp, p⟩ := p
  refine ⟨F, [], rp.sub, .nil, ?_⟩
  unfold fCall0 at p
  cases hg : g [] with
  | ok d =>
    rw [hg] at p
    exact fun F' H' gr v hv => p F' H' gr.f (rp.called gr) v hv
  | exc c d => rw [hg] at p; exact p.elim
  | bad => rw [hg] at p; exact p.elim
end
end DL


namespace DL
open PySem PySem.Spec PyProof.Rows L2
open Evl (Ex)
open PySem.P PySem.StrLaws

/-! ### what is shown, what is compared -/
mutual
def pyD : D → PyData
  | .non => .none
  | .bl b => .bool b
  | .int i => .int i
  | .str x => .str x
  | .opq _ => .none
  | .lst xs => .list (pyDs xs)
  | .scr xs => .list (pyDs xs)
  | .tup xs => .tuple (pyDs xs)
  | .dct _ => .none
def pyDs : List D → List PyData
  | [] => []
  | d :: r => pyD d :: pyDs r
end
/-- of a depth of at most n, no dict and nothing opaque within, ints and texts that can be shown -/
def strC (x : Str) : Bool := decide (x.length ≤ 100000) && x.cps.toList.all fun c => decide (c < 1114112)
mutual
def okN : Nat → D → Bool
  | _, .non => true
  | _, .bl _ => true
  | _, .int i => decide (i.natAbs.log2 < 1920)
  | _, .str x => strC x
  | _, .opq _ => false
  | 0, .lst _ => false
  | n + 1, .lst xs => okNs n xs
  | 0, .tup _ => false
  | 0, .scr _ => false
  | n + 1, .scr xs => okNs n xs
  | n + 1, .tup xs => okNs n xs
  | _, .dct _ => false
def okNs : Nat → List D → Bool
  | _, [] => true
  | n, d :: r => okN n d && okNs n r
end
mutual
/-- at least as many signs as are shown -/
def wD : D → Nat
  | .non => 4
  | .bl _ => 5
  | .int _ => 1930
  | .str x => 10 * x.length + 2
  | .opq _ => 4
  | .lst xs => wDs xs + 4
  | .scr xs => wDs xs + 4
  | .tup xs => wDs xs + 4
  | .dct _ => 4
def wDs : List D → Nat
  | [] => 0
  | d :: r => wD d + 2 + wDs r
end
theorem strC_ok {x : Str} (h : strC x = true) : PyData.strOk x = true ∧ (reprText x).length ≤ 10 * x.length + 2 := by
  unfold strC at h
  rw [Bool.and_eq_true, List.all_eq_true] at h
  have h2 : ∀ c ∈ x.cps.toList, c < 1114112 := fun c hc => of_decide_eq_true (h.2 c hc)
  refine ⟨?_, reprText_len x fun c hc => Nat.lt_trans (h2 c hc) (by decide)⟩
  unfold PyData.strOk
  rw [Array.all_eq_true']
  intro c hc
  exact decide_eq_true (h2 c (Array.mem_def.mp hc))
theorem ofString_len (s : String) : (Str.ofString s).length = s.length := PySem.ofString_length s
theorem int_len (i : Int) (h : i.natAbs.log2 < 1920) : (Str.ofString (toString i)).length ≤ 1930 := by
  rw [ofString_len]
  have hn : i.natAbs < 2 ^ 1920 := by
    by_cases h0 : i.natAbs = 0
    · rw [h0]; exact Nat.pow_pos (by decide)
    · exact (Nat.log2_lt h0).mp h
  cases i with
  | ofNat n =>
    have e : (toString (Int.ofNat n)) = Nat.repr n := rfl
    rw [e]
    have := PySem.nat_repr_length_le (n := n) (k := 1920) (by decide) hn
    omega
  | negSucc n =>
    have e : (toString (Int.negSucc n)) = "-" ++ Nat.repr (n + 1) := rfl
    rw [e, String.length_append]
    have h2 : n + 1 < 2 ^ 1920 := hn
    have := PySem.nat_repr_length_le (n := n + 1) (k := 1920) (by decide) h2
    have e1 : "-".length = 1 := rfl
    omega
theorem textFrom_le : ∀ (ts : List Str) (k : Nat) (acc : Str), (textFrom k acc ts).length ≤ acc.length + piled ts
  | [], _, acc => Nat.le_add_right _ _
  | t :: r, k, acc => by
    have ih := textFrom_le r (k + 1) (acc ++ (if k > 0 then ", " else "" : String) ++ t)
    have e : (acc ++ (if k > 0 then ", " else "" : String) ++ t).length ≤ acc.length + 2 + t.length := by
      rw [strLen_append, strLen_append]
      split
      · exact Nat.le_refl _
      · show acc.length + 0 + t.length ≤ _
        omega
    have p : piled (t :: r) = t.length + 2 + piled r := by simp [piled]
    show (textFrom (k + 1) (acc ++ (if k > 0 then ", " else "" : String) ++ t) r).length ≤ _
    rw [p]
    omega
theorem listText_le (ts : List Str) : (listText ts).length ≤ piled ts + 2 := by
  unfold listText
  rw [strLen_append]
  have := textFrom_le ts 0 "["
  have e1 : ((("[" : String) : Str)).length = 1 := rfl
  have e2 : ((("]" : String) : Str)).length = 1 := rfl
  omega
theorem tupleText_le (ts : List Str) : (tupleText ts).length ≤ piled ts + 4 := by
  unfold tupleText
  rw [strLen_append, strLen_append]
  have e1 : ((("(" : String) : Str)).length = 1 := rfl
  have e3 : (((if ts.length == 1 then ",)" else ")" : String) : Str)).length ≤ 2 := by split <;> decide
  by_cases h : ts = []
  · subst h
    have e : (Str.join ", " ([] : List Str)).length = 0 := rfl
    omega
  · have := join_length_add ts h
    omega
mutual
theorem shown_le : ∀ (n : Nat) (d : D), okN n d = true → (pyD d).shown.length ≤ wD d
  | _, .non, _ => by simp only [pyD, PyData.shown, wD]; decide
  | _, .bl b, _ => by simp only [pyD, PyData.shown, wD]; cases b <;> decide
  | _, .int i, h => by simp only [pyD, PyData.shown, wD]; exact int_len i (of_decide_eq_true h)
  | _, .str x, h => by simp only [pyD, PyData.shown, wD]; exact (strC_ok h).2
  | _, .opq _, h => by simp only [okN] at h; cases h
  | 0, .lst _, h => by simp only [okN] at h; cases h
  | n + 1, .lst xs, h => by
    simp only [okN] at h
    have q := shownAll_le n xs h
    have := listText_le (PyData.shownAll (pyDs xs))
    simp only [pyD, PyData.shown, wD]
    omega
  | 0, .scr _, h => by simp only [okN] at h; cases h
  | n + 1, .scr xs, h => by
    simp only [okN] at h
    have q := shownAll_le n xs h
    have := listText_le (PyData.shownAll (pyDs xs))
    simp only [pyD, PyData.shown, wD]
    omega
  | 0, .tup _, h => by simp only [okN] at h; cases h
  | n + 1, .tup xs, h => by
    simp only [okN] at h
    have q := shownAll_le n xs h
    have := tupleText_le (PyData.shownAll (pyDs xs))
    simp only [pyD, PyData.shown, wD]
    omega
  | _, .dct _, h => by simp only [okN] at h; cases h
theorem shownAll_le : ∀ (n : Nat) (ds : List D), okNs n ds = true → piled (PyData.shownAll (pyDs ds)) ≤ wDs ds
  | _, [], _ => by simp [pyDs, PyData.shownAll, piled, wDs]
  | n, d :: r, h => by
    simp only [okNs, Bool.and_eq_true] at h
    have h1 := shown_le n d h.1
    have h2 := shownAll_le n r h.2
    simp only [pyDs, PyData.shownAll, wDs]
    rw [piled_cons]
    omega
end
mutual
theorem okN_shaped : ∀ (n : Nat) (d : D), okN n d = true → (pyD d).canLay0 = true ∧ (pyD d).depth ≤ n ∧ (pyD d).showable = true ∧ (pyD d).hasDict = false
  | n, .non, _ => by simp [pyD, PyData.canLay0, PyData.depth, PyData.showable, PyData.hasDict]
  | n, .bl b, _ => by simp [pyD, PyData.canLay0, PyData.depth, PyData.showable, PyData.hasDict]
  | n, .int i, h => by
    have := of_decide_eq_true h
    simp [pyD, PyData.canLay0, PyData.depth, PyData.showable, PyData.hasDict, this]
  | n, .str x, h => by simp [pyD, PyData.canLay0, PyData.depth, PyData.showable, PyData.hasDict, (strC_ok h).1]
  | _, .opq _, h => by simp only [okN] at h; cases h
  | 0, .lst _, h => by simp only [okN] at h; cases h
  | n + 1, .lst xs, h => by
    simp only [okN] at h
    obtain ⟨a, b, c, e⟩ := okNs_shaped n xs h
    simp only [pyD, PyData.canLay0, PyData.depth, PyData.showable, PyData.hasDict]
    exact ⟨a, by omega, c, e⟩
  | 0, .scr _, h => by simp only [okN] at h; cases h
  | n + 1, .scr xs, h => by
    simp only [okN] at h
    obtain ⟨a, b, c, e⟩ := okNs_shaped n xs h
    simp only [pyD, PyData.canLay0, PyData.depth, PyData.showable, PyData.hasDict]
    exact ⟨a, by omega, c, e⟩
  | 0, .tup _, h => by simp only [okN] at h; cases h
  | n + 1, .tup xs, h => by
    simp only [okN] at h
    obtain ⟨a, b, c, e⟩ := okNs_shaped n xs h
    simp only [pyD, PyData.canLay0, PyData.depth, PyData.showable, PyData.hasDict]
    exact ⟨a, by omega, c, e⟩
  | _, .dct _, h => by simp only [okN] at h; cases h
theorem okNs_shaped : ∀ (n : Nat) (ds : List D), okNs n ds = true → PyData.canLayAll0 (pyDs ds) = true ∧ PyData.depthAll (pyDs ds) ≤ n ∧ PyData.showableAll (pyDs ds) = true ∧ PyData.hasDictAll (pyDs ds) = false
  | n, [], _ => by simp [pyDs, PyData.canLayAll0, PyData.depthAll, PyData.showableAll, PyData.hasDictAll]
  | n, d :: r, h => by
    simp only [okNs, Bool.and_eq_true] at h
    obtain ⟨a, b, c, e⟩ := okN_shaped n d h.1
    obtain ⟨a2, b2, c2, e2⟩ := okNs_shaped n r h.2
    simp only [pyDs, PyData.canLayAll0, PyData.depthAll, PyData.showableAll, PyData.hasDictAll]
    exact ⟨by rw [a, a2]; rfl, Nat.max_le.mpr ⟨b, b2⟩, by rw [c, c2]; rfl, by rw [e, e2]; rfl⟩
end
mutual
theorem Rp.dp {K : PySem.W.Frag} {F : Hp} : ∀ (n : Nat) (d : D) (v : V), okN n d = true → Rp K F v d → Dp K F v (pyD d)
  | _, .non, _, _, r => by cases r; exact .non
  | _, .bl b, _, _, r => by cases r; exact .bl b
  | _, .int i, _, _, r => by cases r; exact .int i
  | _, .str x, _, _, r => by cases r; exact .str x
  | _, .opq _, _, h, _ => by simp only [okN] at h; cases h
  | 0, .lst _, _, h, _ => by simp only [okN] at h; cases h
  | n + 1, .lst xs, _, h, r => by
    simp only [okN] at h
    cases r with
    | lst hs ha => exact .lst (SqL.of hs) (RpA.dp n xs _ h ha)
  | 0, .scr _, _, h, _ => by simp only [okN] at h; cases h
  | n + 1, .scr xs, _, h, r => by
    simp only [okN] at h
    cases r with
    | scr hs ha => exact .lst hs (RpA.dp n xs _ h ha)
  | 0, .tup _, _, h, _ => by simp only [okN] at h; cases h
  | n + 1, .tup xs, _, h, r => by
    simp only [okN] at h
    cases r with
    | tup hs ha => exact .tup hs (RpA.dp n xs _ h ha)
  | _, .dct _, _, h, _ => by simp only [okN] at h; cases h
theorem RpA.dp {K : PySem.W.Frag} {F : Hp} : ∀ (n : Nat) (ds : List D) (vs : List V), okNs n ds = true → RpA K F vs ds → DpAll K F vs (pyDs ds)
  | _, [], _, _, r => by cases r; exact .nil
  | n, d :: ds, _, h, r => by
    simp only [okNs, Bool.and_eq_true] at h
    cases r with
    | cons r t => exact .cons (Rp.dp n d _ h.1 r) (RpA.dp n ds _ h.2 t)
end

section
variable {X : Cx} {K : PySem.W.Frag}
/-! repr -/
def rShow (K : PySem.W.Frag) : List V → Hp → VK → Prop := fun xs H Q => ∃ x d, xs = [x] ∧ Dp K H x d ∧ d.showable = true ∧ d.hasDict = false ∧ d.depth ≤ 60 ∧ d.shown.length ≤ sizeLine ∧ Q (.str d.shown) H
theorem call_show (ga : X.A.guards = some []) (hu : X.A.units + 64 < cLine) : CallR X (.builtin "repr") (rShow X.K) := by
  intro pins s σ H xs us Q I r h
  obtain ⟨x, d, rfl, hd, h1, h2, h3, h4, q⟩ := h
  obtain ⟨u, rfl, rx⟩ := vals1 r
  have fin : ∀ (h' : Heap) (tk : Nat) (t : Tok), (∀ b o, s.heap.get? b = some o → h'.get? b = some o) → EP X pins σ Q (.str d.shown t) { s with heap := h', toks := tk } :=
    fun h' tk t kp => ⟨.str d.shown, H, I.kept kp, ⟨t, rfl⟩, q⟩
  have one : ∀ t : Tok, EP X pins σ Q (.str d.shown t) { s with toks := s.toks + 1 } := fun t => fin s.heap _ t fun _ _ e => e
  cases hd with
  | non => cases rx; exact repr_of_none (one _)
  | bl b => cases rx; exact repr_of_bool (one _)
  | int i =>
    obtain ⟨t, rfl⟩ := rx
    exact PySem.P.repr_of_int (of_decide_eq_true h1) (one _)
  | str z =>
    obtain ⟨t, rfl⟩ := rx
    exact repr_of_str (one _) h4
  | lst hs ha =>
    obtain ⟨as, rd⟩ := Dp.reads I _ _ _ (.lst hs ha) rx
    cases rx
    exact repr_of_reads' rd h1 (PyData.noDict_hsm h2) ga (by omega) (fun _ _ e => e) (fun h' u tk kp => fin h' tk u kp) h4
  | tup hs ha =>
    obtain ⟨as, rd⟩ := Dp.reads I _ _ _ (.tup hs ha) rx
    cases rx
    exact repr_of_reads' rd h1 (PyData.noDict_hsm h2) ga (by omega) (fun _ _ e => e) (fun h' u tk kp => fin h' tk u kp) h4
end
end DL


namespace DL
open PySem PySem.Spec PyProof.Rows L2
open Evl (Ex)
open PySem.P

section
variable {K : PySem.W.Frag} {F H : Hp}
theorem RpA.ne {xs : List V} {ds : List D} (h : RpA K F xs ds) : (xs = [] ↔ ds = []) := by
  cases h with
  | nil => exact Iff.intro (fun _ => rfl) (fun _ => rfl)
  | cons _ _ => exact Iff.intro (fun z => nomatch z) (fun z => nomatch z)
theorem RpA.flat {xs : List V} {ds : List D} (h : RpA K F xs ds) : ∀ n : Nat, RpA K F (List.replicate n xs).flatten (List.replicate n ds).flatten
  | 0 => by simp only [List.replicate_zero, List.flatten_nil]; exact .nil
  | n + 1 => by simp only [List.replicate_succ, List.flatten_cons]; exact h.append (h.flat n)
theorem RpA.rev : ∀ {xs : List V} {ds : List D}, RpA K F xs ds → RpA K F xs.reverse ds.reverse
  | _, _, .nil => .nil
  | _, _, .cons h t => by simp only [List.reverse_cons]; exact (t.rev).append (.one h)
theorem RpA.at {xs : List V} {ds : List D} (h : RpA K F xs ds) {i : Int} {d : D} (e : atI ds i = some d) : ∃ v, atI xs i = some v ∧ Rp K F v d := by
  unfold atI at e ⊢
  rw [h.length]
  cases q : ixN ds.length i with
  | none => rw [q] at e; cases e
  | some j =>
    rw [q] at e
    exact h.get' e
end

/-! ### + -/
@[simp] def addD : D → D → Option D
  | .int i, .int j => some (.int (i + j))
  | .str x, .str y => if x.length + y.length ≤ 100000 then some (.str (x ++ y)) else none
  | .lst xs, .lst ys => if xs.length + ys.length ≤ 100000 then some (.lst (xs ++ ys)) else none
  | .tup xs, .tup ys => if xs.length + ys.length ≤ 100000 then some (.tup (xs ++ ys)) else none
  | _, _ => none
def rAdd (K : PySem.W.Frag) : R2 := fun x y H Q => rI0 (fun i j => V.int (i + j)) x y H Q ∨ (∃ i j, x = V.str i ∧ y = V.str j ∧ i.length + j.length ≤ sizeLine ∧ Q (V.str (i ++ j)) H) ∨ rCat x y H Q ∨ rCatA K x y H Q
theorem op_addD {X : Cx} : OpR X (binaryOp Operator.Add) (rAdd X.K) := op_add.or (op_add_str.or (op_cat.or op_catA))
theorem s_add {K : PySem.W.Frag} : OpS K (rAdd K) addD := by
  intro O B ρ σ F H x y d e z Q rp hx hy hz k
  cases hx with
  | int i =>
    cases hy <;> cases hz
    exact .inl ⟨i, _, rfl, rfl, k _ F H (Ex.refl F) rp (.int _)⟩
  | str a =>
    cases hy with
    | str b =>
      simp only [addD] at hz
      split at hz
      · next hl =>
        cases hz
        exact .inr (.inl ⟨a, b, rfl, rfl, Evl.sz_of hl, k _ F H (Ex.refl F) rp (.str _)⟩)
      · cases hz
    | _ => cases hz
  | lst h1 h2 =>
    cases hy with
    | lst g1 g2 =>
      simp only [addD] at hz
      split at hz
      · next hl =>
        cases hz
        refine .inr (.inr (.inl ⟨_, _, _, _, rfl, rfl, rp.sub _ _ h1, rp.sub _ _ g1, Evl.sz_of (by rw [h2.length, g2.length]; exact hl), fun p hp => ?_⟩))
        obtain ⟨ex, r'⟩ := rp.alloc (o := .lst _) hp
        exact k _ _ _ ex r' (.lst upd_same ((h2.append g2).up ex))
      · cases hz
    | _ => cases hz
  | tup h1 h2 =>
    cases hy with
    | tup g1 g2 =>
      simp only [addD] at hz
      split at hz
      · next hl =>
        cases hz
        refine .inr (.inr (.inr ⟨_, _, _, _, rfl, rfl, Evl.ex_t rp.sub h1, Evl.ex_t rp.sub g1, Evl.sz_of (by rw [h2.length, g2.length]; exact hl), fun e => ?_, fun _ e => ?_, fun _ _ p hp => ?_⟩))
        · have q := (h2.ne).mp e
          subst q
          exact k _ F H (Ex.refl F) rp (.tup g1 g2)
        · have q := (g2.ne).mp e
          subst q
          refine k _ F H (Ex.refl F) rp ?_
          rw [List.append_nil]
          exact .tup h1 h2
        · obtain ⟨ex, r'⟩ := rp.alloc (o := .tup _) hp
          exact k _ _ _ ex r' (.tup (SqT.of upd_same) ((h2.append g2).up ex))
      · cases hz
    | _ => cases hz
  | _ => cases hz

/-! ### - * % // ** -/
@[simp] def iiD (C : Int → Int → Bool) (g : Int → Int → Int) : D → D → Option D
  | .int i, .int j => if C i j = true then some (.int (g i j)) else none
  | _, _ => none
theorem s_ii {K : PySem.W.Frag} {C : Int → Int → Bool} {P : Int → Int → Prop} {g : Int → Int → Int} (h : ∀ i j, C i j = true → P i j) : OpS K (rI P fun i j => V.int (g i j)) (iiD C g) := by
  intro O B ρ σ F H x y d e z Q rp hx hy hz k
  cases hx with
  | int i =>
    cases hy with
    | int j =>
      simp only [iiD] at hz
      split at hz
      · next hc =>
        cases hz
        exact ⟨i, j, rfl, rfl, h i j hc, k _ F H (Ex.refl F) rp (.int _)⟩
      · cases hz
    | _ => cases hz
  | _ => cases hz
@[simp] def subD : D → D → Option D
  | .int i, .int j => some (.int (i - j))
  | _, _ => none
theorem s_sub {K : PySem.W.Frag} : OpS K (rI0 fun i j => V.int (i - j)) subD := by
  intro O B ρ σ F H x y d e z Q rp hx hy hz k
  cases hx <;> cases hy <;> cases hz
  exact ⟨_, _, rfl, rfl, k _ F H (Ex.refl F) rp (.int _)⟩
@[simp] def modD : D → D → Option D := iiD (fun _ j => decide (0 < j)) fun i j => i % j
theorem s_mod {K : PySem.W.Frag} : OpS K (rI (fun x j => 0 < j) fun i j => V.int (i % j)) modD := s_ii fun _ _ h => of_decide_eq_true h
@[simp] def fdivD : D → D → Option D := iiD (fun _ j => decide (0 < j) && decide (j.natAbs.log2 < 9000)) fun i j => i / j
theorem s_fdiv {K : PySem.W.Frag} : OpS K (rI CDivW fun i j => V.int (i / j)) fdivD := s_ii fun _ _ h => by
  rw [Bool.and_eq_true] at h
  exact ⟨of_decide_eq_true h.1, of_decide_eq_true h.2⟩
@[simp] def powD : D → D → Option D := iiD (fun i j => decide (2 ≤ i) && decide (1 ≤ j) && decide (((PySem.Builtin.Int.intBits i : Nat) : Int) * j ≤ 100000)) fun i j => i ^ j.toNat
def CPowW (i j : Int) : Prop := 2 ≤ i ∧ 1 ≤ j ∧ ((PySem.Builtin.Int.intBits i : Nat) : Int) * j ≤ 100000
theorem op_powW {X : Cx} : OpR X (binaryOp Operator.Pow) (rI CPowW fun i j => V.int (i ^ j.toNat)) := by
  intro pins s σ H x y v u Q I rx ry h
  obtain ⟨i, j, rfl, rfl, ⟨h1, h2, h3⟩, q⟩ := h
  obtain ⟨t, rfl⟩ := rx
  obtain ⟨t', rfl⟩ := ry
  refine PySem.AutoIntOps.pow_4 (by omega) (fun z => ?_) (fun z => ?_) (fun z => ?_) (fun z => ?_) ?_
  · have := eq_of_beq z; omega
  · rw [Bool.or_eq_true] at z
    cases z with
    | inl z => have := eq_of_beq z; omega
    | inr z => have := eq_of_beq z; omega
  · have := eq_of_beq z; omega
  · have := of_decide_eq_true z
    have e : (PySem.bitsLine : Int) ≥ 100000 := by decide
    omega
  · exact ⟨V.int _, H, I.tok _, ⟨_, rfl⟩, q⟩
theorem s_pow {K : PySem.W.Frag} : OpS K (rI CPowW fun i j => V.int (i ^ j.toNat)) powD := s_ii fun _ _ h => by
  rw [Bool.and_eq_true, Bool.and_eq_true] at h
  exact ⟨of_decide_eq_true h.1.1, of_decide_eq_true h.1.2, of_decide_eq_true h.2⟩
@[simp] def mulD : D → D → Option D
  | .int i, .int j => if i.natAbs.log2 + j.natAbs.log2 < 1000000 then some (.int (i * j)) else none
  | .lst xs, .int k => if 0 ≤ k ∧ k ≤ 100000 ∧ xs.length * k.toNat ≤ 100000 then some (.lst (List.replicate k.toNat xs).flatten) else none
  | _, _ => none
theorem s_mul {K : PySem.W.Frag} : OpS K (fun x y H Q => rI CMulW (fun i j => V.int (i * j)) x y H Q ∨ rRep x y H Q) mulD := by
  intro O B ρ σ F H x y d e z Q rp hx hy hz k
  cases hx with
  | int i =>
    cases hy with
    | int j =>
      simp only [mulD] at hz
      split at hz
      · next hc =>
        cases hz
        exact .inl ⟨i, j, rfl, rfl, hc, k _ F H (Ex.refl F) rp (.int _)⟩
      · cases hz
    | _ => cases hz
  | lst h1 h2 =>
    cases hy with
    | int j =>
      simp only [mulD] at hz
      split at hz
      · next hc =>
        cases hz
        refine .inr ⟨_, j, _, rfl, rfl, rp.sub _ _ h1, by omega, by omega, Evl.sz_of (by rw [h2.length]; exact hc.2.2), fun p hp => ?_⟩
        obtain ⟨ex, r'⟩ := rp.alloc (o := .lst _) hp
        exact k _ _ _ ex r' (.lst upd_same ((h2.flat _).up ex))
      · cases hz
    | _ => cases hz
  | _ => cases hz
theorem op_mulD {X : Cx} : OpR X (binaryOp Operator.Mult) (fun x y H Q => rI CMulW (fun i j => V.int (i * j)) x y H Q ∨ rRep x y H Q) := op_mulW.or op_rep
@[simp] def negD : D → Option D
  | .int i => some (.int (-i))
  | _ => none
theorem s_neg {K : PySem.W.Frag} : UnS K (rU fun i => V.int (-i)) negD := by
  intro O B ρ σ F H x d z Q rp hx hz k
  cases hx <;> cases hz
  exact ⟨_, rfl, k _ F H (Ex.refl F) rp (.int _)⟩

/-! ### comparing -/
@[simp] def iibD (g : Int → Int → Bool) : D → D → Option D
  | .int i, .int j => some (.bl (g i j))
  | _, _ => none
theorem s_iib {K : PySem.W.Frag} {g : Int → Int → Bool} : OpS K (rI0 fun i j => V.bl (g i j)) (iibD g) := by
  intro O B ρ σ F H x y d e z Q rp hx hy hz k
  cases hx <;> cases hy <;> cases hz
  exact ⟨_, _, rfl, rfl, k _ F H (Ex.refl F) rp (.bl _)⟩
@[simp] def eqB : D → D → Option Bool
  | .int i, .int j => some (i == j)
  | .bl i, .bl j => some (i == j)
  | .str i, .str j => some (decide (i = j))
  | d, e => if okN 60 d && okN 60 e then some ((pyD d).eqv (pyD e)) else none
@[simp] def eqD (d e : D) : Option D := (eqB d e).map .bl
@[simp] def neD (d e : D) : Option D := (eqB d e).map fun b => .bl (!b)
theorem eqB_dp {K : PySem.W.Frag} {F : Hp} {x y : V} {d e : D} {b : Bool} (hx : Rp K F x d) (hy : Rp K F y e) (h : eqB d e = some b) : (∃ i j, x = V.str i ∧ y = V.str j ∧ decide (i = j) = b) ∨ ∃ d' e', Dp K F x d' ∧ Dp K F y e' ∧ PySem.SeqAt.shaped d' = true ∧ PySem.SeqAt.shaped e' = true ∧ d'.eqv e' = b := by
  have gen : (okN 60 d && okN 60 e) = true → (pyD d).eqv (pyD e) = b → ∃ d' e', Dp K F x d' ∧ Dp K F y e' ∧ PySem.SeqAt.shaped d' = true ∧ PySem.SeqAt.shaped e' = true ∧ d'.eqv e' = b := by
    intro h1 h2
    rw [Bool.and_eq_true] at h1
    obtain ⟨a1, a2, _, _⟩ := okN_shaped _ _ h1.1
    obtain ⟨b1, b2, _, _⟩ := okN_shaped _ _ h1.2
    refine ⟨_, _, Rp.dp _ _ _ h1.1 hx, Rp.dp _ _ _ h1.2 hy, ?_, ?_, h2⟩
    · unfold PySem.SeqAt.shaped
      rw [a1, decide_eq_true (show (pyD d).depth ≤ 64 by omega)]; rfl
    · unfold PySem.SeqAt.shaped
      rw [b1, decide_eq_true (show (pyD e).depth ≤ 64 by omega)]; rfl
  unfold eqB at h
  split at h
  · cases hx; cases hy; exact .inr ⟨_, _, .int _, .int _, rfl, rfl, Option.some.inj h⟩
  · cases hx; cases hy; exact .inr ⟨_, _, .bl _, .bl _, rfl, rfl, Option.some.inj h⟩
  · cases hx; cases hy; exact .inl ⟨_, _, rfl, rfl, Option.some.inj h⟩
  · split at h
    · next q => exact .inr (gen q (Option.some.inj h))
    · cases h
theorem s_eq {K : PySem.W.Frag} : OpS K (fun x y H Q => rEq x y H Q ∨ rEqD K x y H Q) eqD := by
  intro O B ρ σ F H x y d e z Q rp hx hy hz k
  unfold eqD at hz
  cases hb : eqB d e with
  | none => rw [hb] at hz; cases hz
  | some b =>
    rw [hb] at hz
    cases hz
    have q := k _ F H (Ex.refl F) rp (.bl b)
    rcases eqB_dp (hx.up rp.sub) (hy.up rp.sub) hb with ⟨i, j, rfl, rfl, h5⟩ | ⟨d', e', h1, h2, h3, h4, h5⟩
    · refine .inl ⟨rfl, ?_⟩
      rw [show decide (V.str i = V.str j) = b by rw [← h5]; simp]
      exact q
    · refine .inr ⟨d', e', h1, h2, h3, h4, ?_⟩
      rw [h5]
      exact q
theorem s_ne {K : PySem.W.Frag} : OpS K (fun x y H Q => rNe x y H Q ∨ rNeD K x y H Q) neD := by
  intro O B ρ σ F H x y d e z Q rp hx hy hz k
  unfold neD at hz
  cases hb : eqB d e with
  | none => rw [hb] at hz; cases hz
  | some b =>
    rw [hb] at hz
    cases hz
    have q := k _ F H (Ex.refl F) rp (.bl (!b))
    rcases eqB_dp (hx.up rp.sub) (hy.up rp.sub) hb with ⟨i, j, rfl, rfl, h5⟩ | ⟨d', e', h1, h2, h3, h4, h5⟩
    · refine .inl ⟨rfl, ?_⟩
      rw [show decide (V.str i = V.str j) = b by rw [← h5]; simp]
      exact q
    · refine .inr ⟨d', e', h1, h2, h3, h4, ?_⟩
      rw [h5]
      exact q
@[simp] def isNB : D → Option Bool
  | .non => some true
  | .opq _ => none
  | _ => some false
theorem isNB_at {K : PySem.W.Frag} {F : Hp} {x : V} {d : D} {b : Bool} (h : Rp K F x d) (e : isNB d = some b) : decide (x = V.non) = b := by
  cases h <;> cases e <;> rfl
@[simp] def isN (d e : D) : Option D := match e with
  | .non => (isNB d).map .bl
  | _ => none
@[simp] def notN (d e : D) : Option D := match e with
  | .non => (isNB d).map fun b => .bl (!b)
  | _ => none
theorem s_isN {K : PySem.W.Frag} : OpS K (fun x y H Q => y = V.non ∧ Q (V.bl (decide (x = V.non))) H) isN := by
  intro O B ρ σ F H x y d e z Q rp hx hy hz k
  unfold isN at hz
  cases e <;> first | cases hz | skip
  cases hy
  cases hb : isNB d with
  | none => rw [hb] at hz; cases hz
  | some b =>
    rw [hb] at hz
    cases hz
    refine ⟨rfl, ?_⟩
    rw [isNB_at hx hb]
    exact k _ F H (Ex.refl F) rp (.bl b)
theorem s_notN {K : PySem.W.Frag} : OpS K (fun x y H Q => y = V.non ∧ Q (V.bl !decide (x = V.non)) H) notN := by
  intro O B ρ σ F H x y d e z Q rp hx hy hz k
  unfold notN at hz
  cases e <;> first | cases hz | skip
  cases hy
  cases hb : isNB d with
  | none => rw [hb] at hz; cases hz
  | some b =>
    rw [hb] at hz
    cases hz
    refine ⟨rfl, ?_⟩
    rw [isNB_at hx hb]
    exact k _ F H (Ex.refl F) rp (.bl _)
/-- in a list -/
@[simp] def inB : D → D → Option Bool
  | d, .lst ds => if okN 60 d && okNs 59 ds then some ((pyDs ds).any fun z => z.eqv (pyD d)) else none
  | _, _ => none
@[simp] def inD (d e : D) : Option D := (inB d e).map .bl
@[simp] def notInD (d e : D) : Option D := (inB d e).map fun b => .bl (!b)
theorem inB_dp {K : PySem.W.Frag} {F H : Hp} {x y : V} {d e : D} {b : Bool} (ex : Ex F H) (hx0 : Rp K F x d) (hy0 : Rp K F y e) (h : inB d e = some b) : ∃ d' ds, Dp K H x d' ∧ Dp K H y (.list ds) ∧ PySem.SeqAt.shaped d' = true ∧ PySem.SeqAt.shaped (.list ds) = true ∧ (ds.any fun z => z.eqv d') = b := by
  have hx := hx0.up ex
  have hy := hy0.up ex
  unfold inB at h
  split at h
  · next ds =>
    split at h
    · next q =>
      rw [Bool.and_eq_true] at q
      obtain ⟨a1, a2, _, _⟩ := okN_shaped _ _ q.1
      have q2 : okN 60 (.lst ds) = true := by simp only [okN]; exact q.2
      obtain ⟨b1, b2, _, _⟩ := okN_shaped _ _ q2
      have dy := Rp.dp _ _ _ q2 hy
      simp only [pyD] at dy b1 b2
      refine ⟨_, _, Rp.dp _ _ _ q.1 hx, dy, ?_, ?_, Option.some.inj h⟩
      · unfold PySem.SeqAt.shaped
        rw [a1, decide_eq_true (show (pyD d).depth ≤ 64 by omega)]; rfl
      · unfold PySem.SeqAt.shaped
        rw [b1, decide_eq_true (show (PyData.list (pyDs ds)).depth ≤ 64 by omega)]; rfl
    · cases h
  · cases h
theorem s_in {K : PySem.W.Frag} : OpS K (rInD K) inD := by
  intro O B ρ σ F H x y d e z Q rp hx hy hz k
  unfold inD at hz
  cases hb : inB d e with
  | none => rw [hb] at hz; cases hz
  | some b =>
    rw [hb] at hz
    cases hz
    obtain ⟨d', e', h1, h2, h3, h4, h5⟩ := inB_dp rp.sub hx hy hb
    refine ⟨d', e', h1, h2, h3, h4, ?_⟩
    rw [h5]
    exact k _ F H (Ex.refl F) rp (.bl b)
theorem s_notIn {K : PySem.W.Frag} : OpS K (rNotInD K) notInD := by
  intro O B ρ σ F H x y d e z Q rp hx hy hz k
  unfold notInD at hz
  cases hb : inB d e with
  | none => rw [hb] at hz; cases hz
  | some b =>
    rw [hb] at hz
    cases hz
    obtain ⟨d', e', h1, h2, h3, h4, h5⟩ := inB_dp rp.sub hx hy hb
    refine ⟨d', e', h1, h2, h3, h4, ?_⟩
    rw [h5]
    exact k _ F H (Ex.refl F) rp (.bl _)

/-! ### x[i], x[i:j] -/
@[simp] def ixD : D → D → Option D
  | .lst xs, .int i => atI xs i
  | .tup xs, .int i => atI xs i
  | .scr xs, .int i => atI xs i
  | .str x, .int i => if x.length ≤ 100000 then (atI x.cps.toList i).map fun c => .str ⟨#[c]⟩ else none
  | _, _ => none
theorem s_ix {K : PySem.W.Frag} : OpS K (rIx K) ixD := by
  intro O B ρ σ F H x y d e z Q rp hx hy hz k
  cases hx with
  | lst h1 h2 =>
    cases hy <;> first | (cases hz; done) | skip
    obtain ⟨v, g1, g2⟩ := h2.at hz
    exact .inl ⟨_, _, _, _, rfl, rfl, SqL.of (rp.sub _ _ h1), g1, k _ F H (Ex.refl F) rp g2⟩
  | scr h1 h2 =>
    cases hy <;> first | (cases hz; done) | skip
    obtain ⟨v, g1, g2⟩ := h2.at hz
    exact .inl ⟨_, _, _, _, rfl, rfl, Evl.ex_l rp.sub h1, g1, k _ F H (Ex.refl F) rp g2⟩
  | tup h1 h2 =>
    cases hy <;> first | (cases hz; done) | skip
    obtain ⟨v, g1, g2⟩ := h2.at hz
    exact .inr (.inl ⟨_, _, _, _, rfl, rfl, Evl.ex_t rp.sub h1, g1, k _ F H (Ex.refl F) rp g2⟩)
  | str a =>
    cases hy <;> first | (cases hz; done) | skip
    simp only [ixD] at hz
    split at hz
    · next hl =>
      cases hc : atI a.cps.toList (by assumption) with
      | none => rw [hc] at hz; cases hz
      | some c =>
        rw [hc] at hz
        cases hz
        exact .inr (.inr ⟨_, _, c, rfl, rfl, Evl.sz_of hl, hc, k _ F H (Ex.refl F) rp (.str _)⟩)
    · cases hz
  | _ => cases hz
end DL


namespace DL
open PySem PySem.Spec PyProof.Rows L2
open Evl (Ex)
open PySem.P

section
variable {X : Cx} {W : WX} {O : List Nat} {fa : Env → R D} {fr : Env → R (List D)}
/-! ### x[lo:hi] -/
structure DP (X : Cx) (W : WX) (O : List Nat) (e : Option Expr) (f : Env → R (Option Int)) : Prop where
  po : PO X e (fun σ H Q => ∃ B ρ F, Rep X.K B O ρ σ F H ∧ GPost X.K X.mg W O B F σ (f ρ) (fun o _ _ H' => Q o H'))
@[simp] def pNone (ρ : Env) : R (Option Int) := .ok none ρ
@[simp] def pSome (fa : Env → R D) (ρ : Env) : R (Option Int) := (fa ρ).bind fun d ρ1 => match d with
  | .int i => .ok (some i) ρ1
  | _ => .bad
theorem po_imp {e : Option Expr} {t t' : TO} (h : PO X e t) (k : ∀ σ H Q, t' σ H Q → t σ H Q) : PO X e t' := ⟨fun pins s σ H Q I q => h.run pins s σ H Q I (k σ H Q q)⟩
theorem dp_none : DP X W O none pNone := by
  refine ⟨po_imp po_none fun σ H Q p => ?_⟩
  obtain ⟨B, ρ, F, rp, p⟩ := p
  exact p F H (Ex.refl F) rp
theorem dp_some {e : Expr} (h : DE X W O e fa) : DP X W O (some e) (pSome fa) := by
  refine ⟨po_imp (po_some h.pe) fun σ H Q p => ?_⟩
  obtain ⟨B, ρ, F, rp, p⟩ := p
  refine ⟨B, ρ, F, rp, p.bind.imp fun d ρ1 F1 H1 _ e1 rp1 p1 x hx => ?_⟩
  cases d <;> first | exact p1.elim | skip
  cases hx
  exact ⟨_, rfl, p1 F1 H1 (Ex.refl F1) rp1⟩
def cutD (xs : List D) (lo hi : Option Int) : List D := List.take (HT.sIx xs.length xs.length hi - HT.sIx xs.length 0 lo) (List.drop (HT.sIx xs.length 0 lo) xs)
theorem RpA.cut {K : PySem.W.Frag} {F : Hp} {xs : List V} {ds : List D} (h : RpA K F xs ds) (lo hi : Option Int) : RpA K F (cutV xs lo hi) (cutD ds lo hi) := by
  unfold cutV cutD
  rw [h.length]
  exact (h.drop _).take _
@[simp] def slD : D → Option Int → Option Int → Option D
  | .lst xs, lo, hi => some (.lst (cutD xs lo hi))
  | .scr xs, lo, hi => some (.lst (cutD xs lo hi))
  | .tup xs, lo, hi => some (.tup (cutD xs lo hi))
  | _, _, _ => none
@[simp] def fSl (fa : Env → R D) (fl fh : Env → R (Option Int)) (ρ : Env) : R D := (fa ρ).bind fun d ρ1 => (fl ρ1).bind fun lo ρ2 => (fh ρ2).bind fun hi ρ3 => lift (slD d lo hi) ρ3
theorem HT_whole {n : Nat} {lo hi : Option Int} (h : HT.sIx n 0 lo = 0 ∧ HT.sIx n n hi = n) {xs : List D} (e : xs.length = n) : cutD xs lo hi = xs := by
  unfold cutD
  rw [e, h.1, h.2, List.drop_zero, Nat.sub_zero, ← e, List.take_length]
theorem de_slice {e : Expr} {lo hi : Option Expr} {fl fh : Env → R (Option Int)} {pos p2 : Pos} (h : DE X W O e fa) (hl : DP X W O lo fl) (hh : DP X W O hi fh) : DE X W O (.Subscript e (.Slice lo hi none p2) pos) (fSl fa fl fh) := by
  refine ⟨pe_imp (pe_slice (sl_list.or sl_tupA) h.pe hl.po hh.po) fun σ H Q p => ?_⟩
  obtain ⟨B, ρ, F, rp, p⟩ := p
  refine ⟨B, ρ, F, rp, p.bind.imp fun d ρ1 F1 H1 _ e1 rp1 p1 x hx => ?_⟩
  refine ⟨B, ρ1, F1, rp1, p1.bind.imp fun lo ρ2 F2 H2 _ e2 rp2 p2 => ?_⟩
  refine ⟨B, ρ2, F2, rp2, p2.bind.imp fun hi ρ3 F3 H3 _ e3 rp3 p3 => ?_⟩
  obtain ⟨z, hz, q⟩ := liftP p3
  cases hx with
  | lst h1 h2 =>
    cases hz
    refine .inl ⟨_, _, rfl, SqL.of (rp3.sub _ _ (e3 _ _ (e2 _ _ h1))), fun p hp => ?_⟩
    obtain ⟨ex, r'⟩ := rp3.alloc (o := .lst _) hp
    exact q _ _ ex r' _ (.lst upd_same ((h2.cut lo hi).up (e2.trans (e3.trans ex))))
  | scr h1 h2 =>
    cases hz
    refine .inl ⟨_, _, rfl, Evl.ex_l (e2.trans (e3.trans rp3.sub)) h1, fun p hp => ?_⟩
    obtain ⟨ex, r'⟩ := rp3.alloc (o := .lst _) hp
    exact q _ _ ex r' _ (.lst upd_same ((h2.cut lo hi).up (e2.trans (e3.trans ex))))
  | tup h1 h2 =>
    cases hz
    refine .inr ⟨_, _, rfl, Evl.ex_t (e2.trans (e3.trans rp3.sub)) h1, fun hw => ?_, fun _ p hp => ?_⟩
    · refine q F3 H3 (Ex.refl F3) rp3 _ ?_
      rw [HT_whole (by rw [h2.length] at hw; exact hw) rfl]
      exact .tup (Evl.ex_t (e2.trans e3) h1) (h2.up (e2.trans e3))
    · obtain ⟨ex, r'⟩ := rp3.alloc (o := .tup _) hp
      exact q _ _ ex r' _ (.tup (SqT.of upd_same) ((h2.cut lo hi).up (e2.trans (e3.trans ex))))
  | _ => cases hz

/-! ### built-in functions and types over data -/
theorem de_bltn {x : Str} {p pos : Pos} {e : Expr} {es : List Expr} {id : String} {r : List V → Hp → VK → Prop} {g : List D → Option D} (hc : CallR X (.builtin id) r) (s : ClS X.K r g) (hm : X.mg x = none) (hv : bootBuiltins x = some (.builtin id)) (ha : DA X W O (e :: es) fr)
    (hg : Gl X x := by rfl) (hn : x ≠ "__name__" := by decide) (hd : (x == ("__debug__" : Str)) = false := by decide) (he : starEach (e :: es) X.env = (false, eval e X.env) :: starEach es X.env := by rfl) (hpl : (backTo pos (starEach es X.env)).any (·.1) = false := by rfl) :
    DE X W O (.Call (.Name x p) (e :: es) [] pos) (fCl g fr) := by
  refine ⟨pe_imp (pe_callB hc hg hm hv ha.pa hn hd he hpl) fun σ H Q p => ?_⟩
  obtain ⟨B, ρ, F, rp, p⟩ := p
  refine ⟨B, ρ, F, rp, p.bind.imp fun ds ρ1 F1 H1 _ e1 rp1 p1 xs hxs => ?_⟩
  obtain ⟨z, hz, q⟩ := liftP p1
  exact s O B ρ1 σ F1 H1 xs ds z Q rp1 hxs hz fun v F' H' e' r' h' => q F' H' e' r' v h'
theorem de_btype {x : Str} {p pos : Pos} {e : Expr} {es : List Expr} {T : String} {r : List V → Hp → VK → Prop} {g : List D → Option D} (hc : CallR X (.type T) r) (s : ClS X.K r g) (hm : X.mg x = none) (hv : bootBuiltins x = some (.type T)) (ha : DA X W O (e :: es) fr)
    (hg : Gl X x := by rfl) (hn : x ≠ "__name__" := by decide) (hd : (x == ("__debug__" : Str)) = false := by decide) (he : starEach (e :: es) X.env = (false, eval e X.env) :: starEach es X.env := by rfl) (hpl : (backTo pos (starEach es X.env)).any (·.1) = false := by rfl) :
    DE X W O (.Call (.Name x p) (e :: es) [] pos) (fCl g fr) := by
  refine ⟨pe_imp (pe_callTy hc hg hm hv ha.pa hn hd he hpl) fun σ H Q p => ?_⟩
  obtain ⟨B, ρ, F, rp, p⟩ := p
  refine ⟨B, ρ, F, rp, p.bind.imp fun ds ρ1 F1 H1 _ e1 rp1 p1 xs hxs => ?_⟩
  obtain ⟨z, hz, q⟩ := liftP p1
  exact s O B ρ1 σ F1 H1 xs ds z Q rp1 hxs hz fun v F' H' e' r' h' => q F' H' e' r' v h'
theorem RpA.one_of {K : PySem.W.Frag} {F : Hp} {xs : List V} {d : D} (h : RpA K F xs [d]) : ∃ x, xs = [x] ∧ Rp K F x d := by
  cases h with
  | cons h t => cases t; exact ⟨_, rfl, h⟩
theorem RpA.two_of {K : PySem.W.Frag} {F : Hp} {xs : List V} {d e : D} (h : RpA K F xs [d, e]) : ∃ x y, xs = [x, y] ∧ Rp K F x d ∧ Rp K F y e := by
  cases h with
  | cons h t =>
    obtain ⟨y, rfl, h2⟩ := t.one_of
    exact ⟨_, y, rfl, h, h2⟩
variable {K : PySem.W.Frag}
@[simp] def intF : List D → Option D
  | [.int i] => some (.int i)
  | [.bl k] => some (.int (if k = true then 1 else 0))
  | _ => none
theorem s_int : ClS K (fun xs H Q => (∃ i, xs = [V.int i] ∧ Q (V.int i) H) ∨ ∃ k, xs = [V.bl k] ∧ Q (V.int (if k = true then 1 else 0)) H) intF := by
  intro O B ρ σ F H xs ds z Q rp hx hz k
  unfold intF at hz
  split at hz
  · cases hz
    obtain ⟨x, rfl, h⟩ := hx.one_of
    cases h
    exact .inl ⟨_, rfl, k _ F H (Ex.refl F) rp (.int _)⟩
  · cases hz
    obtain ⟨x, rfl, h⟩ := hx.one_of
    cases h
    exact .inr ⟨_, rfl, k _ F H (Ex.refl F) rp (.int _)⟩
  · cases hz
@[simp] def maxF : List D → Option D
  | [.int i, .int j] => some (.int (if j > i then j else i))
  | _ => none
theorem s_max : ClS K (fun xs H Q => ∃ i j, xs = [V.int i, V.int j] ∧ Q (V.int (if j > i then j else i)) H) maxF := by
  intro O B ρ σ F H xs ds z Q rp hx hz k
  unfold maxF at hz
  split at hz
  · cases hz
    obtain ⟨x, y, rfl, h, h2⟩ := hx.two_of
    cases h; cases h2
    exact ⟨_, _, rfl, k _ F H (Ex.refl F) rp (.int _)⟩
  · cases hz
@[simp] def minF : List D → Option D
  | [.int i, .int j] => some (.int (if j < i then j else i))
  | _ => none
theorem s_min : ClS K (fun xs H Q => ∃ i j, xs = [V.int i, V.int j] ∧ Q (V.int (if j < i then j else i)) H) minF := by
  intro O B ρ σ F H xs ds z Q rp hx hz k
  unfold minF at hz
  split at hz
  · cases hz
    obtain ⟨x, y, rfl, h, h2⟩ := hx.two_of
    cases h; cases h2
    exact ⟨_, _, rfl, k _ F H (Ex.refl F) rp (.int _)⟩
  · cases hz
@[simp] def lenF : List D → Option D
  | [.lst xs] => some (.int xs.length)
  | [.tup xs] => some (.int xs.length)
  | [.scr xs] => some (.int xs.length)
  | [.str x] => if x.length ≤ 100000 then some (.int x.length) else none
  | _ => none
def rLen (K : PySem.W.Frag) : List V → Hp → VK → Prop := fun xs H Q => (∃ p ys, xs = [V.ref p] ∧ (SqL K H p ys ∨ SqT K H p ys) ∧ Q (V.int ↑ys.length) H) ∨ ∃ z, xs = [V.str z] ∧ z.length ≤ sizeLine ∧ Q (V.int ↑z.length) H
theorem c_len : CallR X (.builtin "len") (rLen X.K) := call_len_seq.or call_len_str
theorem s_len : ClS K (rLen K) lenF := by
  intro O B ρ σ F H xs ds z Q rp hx hz k
  unfold lenF at hz
  split at hz
  · cases hz
    obtain ⟨x, rfl, h⟩ := hx.one_of
    cases h with
    | lst h1 h2 => exact .inl ⟨_, _, rfl, .inl (SqL.of (rp.sub _ _ h1)), by rw [h2.length]; exact k _ F H (Ex.refl F) rp (.int _)⟩
  · cases hz
    obtain ⟨x, rfl, h⟩ := hx.one_of
    cases h with
    | tup h1 h2 => exact .inl ⟨_, _, rfl, .inr (Evl.ex_t rp.sub h1), by rw [h2.length]; exact k _ F H (Ex.refl F) rp (.int _)⟩
  · cases hz
    obtain ⟨x, rfl, h⟩ := hx.one_of
    cases h with
    | scr h1 h2 => exact .inl ⟨_, _, rfl, .inl (Evl.ex_l rp.sub h1), by rw [h2.length]; exact k _ F H (Ex.refl F) rp (.int _)⟩
  · split at hz
    · next hl =>
      cases hz
      obtain ⟨x, rfl, h⟩ := hx.one_of
      cases h
      exact .inr ⟨_, rfl, Evl.sz_of hl, k _ F H (Ex.refl F) rp (.int _)⟩
    · cases hz
  · cases hz
@[simp] def tyD : D → Option String
  | .non => some "NoneType"
  | .bl _ => some "bool"
  | .int _ => some "int"
  | .str _ => some "str"
  | .lst _ => some "list"
  | .tup _ => some "tuple"
  | .dct _ => some "dict"
  | _ => none
theorem tyx_at {F H : Hp} {x : V} {d : D} {t : String} (ex : Ex F H) (h : Rp K F x d) (e : tyD d = some t) : TyX K H x (.type t) := by
  cases h with
  | non => cases e; exact .base .non
  | bl b => cases e; exact .base (.bl b)
  | int i => cases e; exact .base (.int i)
  | str x => cases e; exact .base (.str x)
  | opq v => cases e
  | lst h1 h2 => cases e; exact .base (.lst (ex _ _ h1))
  | scr h1 h2 => cases e
  | tup h1 h2 =>
    cases e
    rcases h1 with (h1 | ⟨o, h1⟩) | ⟨o, its, n, h1, h3, h4⟩
    · exact .base (.tup (ex _ _ h1))
    · exact .fTuple (ex _ _ h1)
    · exact .kTuple h1 h3
  | dct h1 h2 => cases e; exact .base (.dK (ex _ _ h1))
@[simp] def isiF : List D → Option D
  | [d, .opq (.ty T)] => (tyD d).bind fun t => (kitB t T).map .bl
  | _ => none
theorem s_isi : ClS K (rIsi K) isiF := by
  intro O B ρ σ F H xs ds z Q rp hx hz k
  unfold isiF at hz
  split at hz
  · next d T =>
    obtain ⟨x, y, rfl, h, h2⟩ := hx.two_of
    cases ht : tyD d with
    | none => rw [ht] at hz; cases hz
    | some t =>
      rw [ht] at hz
      cases hb : kitB t T with
      | none =>
        have e : (kitB t T).map D.bl = some z := hz
        rw [hb] at e; cases e
      | some b =>
        have e : (kitB t T).map D.bl = some z := hz
        rw [hb] at e; cases e
        cases h2
        exact ⟨x, _, _, _, b, rfl, .ty T, tyx_at rp.sub h ht, kit_ty hb, k _ F H (Ex.refl F) rp (.bl b)⟩
  · cases hz
@[simp] def intsD : List D → Option (List Int)
  | [] => some []
  | .int i :: r => (intsD r).map (i :: ·)
  | _ => none
@[simp] def bls : List D → Option (List Bool)
  | [] => some []
  | .bl i :: r => (bls r).map (i :: ·)
  | _ => none
theorem ints_at {F : Hp} : ∀ {ds : List D} {xs : List V} {ns : List Int}, RpA K F xs ds → intsD ds = some ns → xs = ns.map V.int
  | _, _, _, .nil, e => by cases e; rfl
  | _, _, ns, .cons (d := d) (ds := ds) h t, e => by
    cases d <;> first | (cases e; done) | skip
    rename_i i
    have e : (intsD ds).map (i :: ·) = some ns := e
    cases q : intsD ds with
    | none => rw [q] at e; cases e
    | some ms =>
      rw [q] at e
      cases e
      cases h
      rw [ints_at t q]
      rfl
theorem bls_at {F : Hp} : ∀ {ds : List D} {xs : List V} {ns : List Bool}, RpA K F xs ds → bls ds = some ns → xs = ns.map V.bl
  | _, _, _, .nil, e => by cases e; rfl
  | _, _, ns, .cons (d := d) (ds := ds) h t, e => by
    cases d <;> first | (cases e; done) | skip
    rename_i i
    have e : (bls ds).map (i :: ·) = some ns := e
    cases q : bls ds with
    | none => rw [q] at e; cases e
    | some ms =>
      rw [q] at e
      cases e
      cases h
      rw [bls_at t q]
      rfl
@[simp] def allF : List D → Option D
  | [.lst xs] => (bls xs).map fun bs => .bl (bs.all id)
  | _ => none
@[simp] def anyF : List D → Option D
  | [.lst xs] => (bls xs).map fun bs => .bl (bs.any id)
  | _ => none
theorem s_all : ClS K (rAll K) allF := by
  intro O B ρ σ F H xs ds z Q rp hx hz k
  unfold allF at hz
  split at hz
  · next ys =>
    obtain ⟨x, rfl, h⟩ := hx.one_of
    cases q : bls ys with
    | none => rw [q] at hz; cases hz
    | some bs =>
      rw [q] at hz
      cases hz
      cases h with
      | lst h1 h2 => exact ⟨_, bs, rfl, by rw [← bls_at h2 q]; exact SqL.of (rp.sub _ _ h1), k _ F H (Ex.refl F) rp (.bl _)⟩
  · cases hz
theorem s_any : ClS K (rAny K) anyF := by
  intro O B ρ σ F H xs ds z Q rp hx hz k
  unfold anyF at hz
  split at hz
  · next ys =>
    obtain ⟨x, rfl, h⟩ := hx.one_of
    cases q : bls ys with
    | none => rw [q] at hz; cases hz
    | some bs =>
      rw [q] at hz
      cases hz
      cases h with
      | lst h1 h2 => exact ⟨_, bs, rfl, by rw [← bls_at h2 q]; exact SqL.of (rp.sub _ _ h1), k _ F H (Ex.refl F) rp (.bl _)⟩
  · cases hz
/-- sum: of a list, of a tuple -/
@[simp] def sumF : List D → Option D
  | [.lst xs] => (intsD xs).map fun ns => .int ns.sum
  | [.scr xs] => (intsD xs).map fun ns => .int ns.sum
  | [.tup xs] => (intsD xs).map fun ns => .int ns.sum
  | _ => none
def rSumT (K : PySem.W.Frag) : List V → Hp → VK → Prop := fun vs H Q => ∃ a ns, vs = [V.ref a] ∧ SqT K H a (List.map V.int ns) ∧ Q (V.int ns.sum) H
theorem pre_sum : ∀ (xs : List (Int × Tok)), preSum (numAt xs.toArray) xs.length = (xs.map (·.1)).sum := by
  have step : ∀ (xs : List (Int × Tok)) (k : Nat), k ≤ xs.length → preSum (numAt xs.toArray) k = ((xs.take k).map (·.1)).sum := by
    intro xs k
    induction k with
    | zero => intro _; rfl
    | succ k ih =>
      intro hk
      have e : preSum (numAt xs.toArray) (k + 1) = preSum (numAt xs.toArray) k + numAt xs.toArray k := rfl
      rw [e, ih (by omega), List.take_succ_eq_append_getElem (by omega), List.map_append, List.sum_append]
      unfold numAt
      rw [List.getElem?_toArray, List.getElem?_eq_getElem (by omega)]
      simp
  intro xs
  rw [step xs xs.length (Nat.le_refl _), List.take_length]
theorem ints_vals : ∀ {ns : List Int} {us : List Value}, Vals (ns.map V.int) us → ∃ ts : List (Int × Tok), us = ts.map (fun p => Value.int p.1 p.2) ∧ ts.map (·.1) = ns
  | [], us, h => by cases h; exact ⟨[], rfl, rfl⟩
  | n :: r, us, h => by
    cases h with
    | cons h t =>
      obtain ⟨ts, rfl, h2⟩ := ints_vals t
      obtain ⟨tk, rfl⟩ := h
      exact ⟨(n, tk) :: ts, rfl, by rw [List.map_cons, h2]⟩
theorem c_sumT : X.calm = true → CallR X (.builtin "sum") (rSumT X.K) := by
  intro hc pins s σ H xs us Q I r h
  obtain ⟨a, ns, rfl, h1, q⟩ := h
  obtain ⟨u, rfl, rx⟩ := vals1 r
  cases rx
  obtain ⟨its, v1, ⟨o, k1, k2, k3⟩, v3⟩ := I.tuple h1
  obtain ⟨ts, rfl, rfl⟩ := ints_vals v1
  refine PySem.W.ktm_sumG (xs := ts.toArray) (I.ok.hd hc) ⟨o, k1, k2, ?_⟩ fun h' tk t' kp => ?_
  · simpa [PySem.intItems] using k3
  · refine ⟨V.int _, H, I.kept kp, ⟨t', rfl⟩, ?_⟩
    have e : preSum (numAt ts.toArray) ts.toArray.size = (ts.map (·.1)).sum := pre_sum ts
    rw [e]
    exact q
theorem c_sum (hc : X.calm = true) : CallR X (.builtin "sum") (fun xs H Q => rSum X.K xs H Q ∨ rSumT X.K xs H Q) := (cr_sum hc).or (c_sumT hc)
theorem s_sum : ClS K (fun xs H Q => rSum K xs H Q ∨ rSumT K xs H Q) sumF := by
  intro O B ρ σ F H xs ds z Q rp hx hz k
  unfold sumF at hz
  split at hz
  · next ys =>
    obtain ⟨x, rfl, h⟩ := hx.one_of
    cases q : intsD ys with
    | none => rw [q] at hz; cases hz
    | some bs =>
      rw [q] at hz
      cases hz
      cases h with
      | lst h1 h2 => exact .inl ⟨_, bs, rfl, by rw [← ints_at h2 q]; exact SqL.of (rp.sub _ _ h1), k _ F H (Ex.refl F) rp (.int _)⟩
  · next ys =>
    obtain ⟨x, rfl, h⟩ := hx.one_of
    cases q : intsD ys with
    | none => rw [q] at hz; cases hz
    | some bs =>
      rw [q] at hz
      cases hz
      cases h with
      | scr h1 h2 => exact .inl ⟨_, bs, rfl, by rw [← ints_at h2 q]; exact Evl.ex_l rp.sub h1, k _ F H (Ex.refl F) rp (.int _)⟩
  · next ys =>
    obtain ⟨x, rfl, h⟩ := hx.one_of
    cases q : intsD ys with
    | none => rw [q] at hz; cases hz
    | some bs =>
      rw [q] at hz
      cases hz
      cases h with
      | tup h1 h2 => exact .inr ⟨_, bs, rfl, by rw [← ints_at h2 q]; exact Evl.ex_t rp.sub h1, k _ F H (Ex.refl F) rp (.int _)⟩
  · cases hz
/-- tuple(x) -/
@[simp] def tupF : List D → Option D
  | [.lst xs] => some (.tup xs)
  | [.scr xs] => some (.tup xs)
  | [.tup xs] => some (.tup xs)
  | _ => none
def rTupOf (K : PySem.W.Frag) : List V → Hp → VK → Prop := fun xs H Q => ∃ p ys, xs = [V.ref p] ∧ ((SqL K H p ys ∧ ∀ (l : Addr), H l = none → Q (V.ref l) (upd H l (HO.tup ys))) ∨ SqT K H p ys ∧ Q (V.ref p) H)
theorem c_tup : CallR X (.type "tuple") (rTupOf X.K) := call_tuple_of
theorem s_tup : ClS K (rTupOf K) tupF := by
  intro O B ρ σ F H xs ds z Q rp hx hz k
  unfold tupF at hz
  split at hz
  · cases hz
    obtain ⟨x, rfl, h⟩ := hx.one_of
    cases h with
    | lst h1 h2 =>
      refine ⟨_, _, rfl, .inl ⟨SqL.of (rp.sub _ _ h1), fun p hp => ?_⟩⟩
      obtain ⟨ex, r'⟩ := rp.alloc (o := .tup _) hp
      exact k _ _ _ ex r' (.tup (SqT.of upd_same) (h2.up ex))
  · cases hz
    obtain ⟨x, rfl, h⟩ := hx.one_of
    cases h with
    | scr h1 h2 =>
      refine ⟨_, _, rfl, .inl ⟨Evl.ex_l rp.sub h1, fun p hp => ?_⟩⟩
      obtain ⟨ex, r'⟩ := rp.alloc (o := .tup _) hp
      exact k _ _ _ ex r' (.tup (SqT.of upd_same) (h2.up ex))
  · cases hz
    obtain ⟨x, rfl, h⟩ := hx.one_of
    cases h with
    | tup h1 h2 => exact ⟨_, _, rfl, .inr ⟨Evl.ex_t rp.sub h1, k _ F H (Ex.refl F) rp (.tup h1 h2)⟩⟩
  · cases hz
/-- list(x) -/
@[simp] def lstF : List D → Option D
  | [.lst xs] => some (.lst xs)
  | [.scr xs] => some (.lst xs)
  | [.tup xs] => some (.lst xs)
  | _ => none
def rLstOf (K : PySem.W.Frag) : List V → Hp → VK → Prop := fun xs H Q => ∃ p ys, xs = [V.ref p] ∧ (SqL K H p ys ∨ SqT K H p ys) ∧ ∀ (l : Addr), H l = none → Q (V.ref l) (upd H l (HO.lst ys))
theorem c_lst : CallR X (.type "list") (rLstOf X.K) := call_list_of
theorem s_lst : ClS K (rLstOf K) lstF := by
  intro O B ρ σ F H xs ds z Q rp hx hz k
  unfold lstF at hz
  have fin : ∀ {a : Addr} {vs : List V} {es : List D}, (SqL K H a vs ∨ SqT K H a vs) → RpA K F vs es → z = .lst es → xs = [V.ref a] → rLstOf K xs H Q := by
    intro a vs es h1 h2 h3 h4
    subst h3 h4
    refine ⟨a, vs, rfl, h1, fun p hp => ?_⟩
    obtain ⟨ex, r'⟩ := rp.alloc (o := .lst _) hp
    exact k _ _ _ ex r' (.lst upd_same (h2.up ex))
  split at hz
  · cases hz
    obtain ⟨x, rfl, h⟩ := hx.one_of
    cases h with
    | lst h1 h2 => exact fin (.inl (SqL.of (rp.sub _ _ h1))) h2 rfl rfl
  · cases hz
    obtain ⟨x, rfl, h⟩ := hx.one_of
    cases h with
    | scr h1 h2 => exact fin (.inl (Evl.ex_l rp.sub h1)) h2 rfl rfl
  · cases hz
    obtain ⟨x, rfl, h⟩ := hx.one_of
    cases h with
    | tup h1 h2 => exact fin (.inr (Evl.ex_t rp.sub h1)) h2 rfl rfl
  · cases hz
/-- .. a new list of one's own -/
theorem do_list {x : Str} {p pos : Pos} {e : Expr} (hm : X.mg x = none) (hv : bootBuiltins x = some (.type "list")) (ha : DA X W O [e] fr)
    (hg : Gl X x := by rfl) (hn : x ≠ "__name__" := by decide) (hd : (x == ("__debug__" : Str)) = false := by decide) (he : starEach (e :: []) X.env = (false, eval e X.env) :: starEach [] X.env := by rfl) (hpl : (backTo pos (starEach [] X.env)).any (·.1) = false := by rfl) :
    DO X W O (.Call (.Name x p) [e] [] pos) (fCl lstF fr) := by
  refine ⟨pe_imp (pe_callTy c_lst hg hm hv ha.pa hn hd he hpl) fun σ H Q p => ?_⟩
  obtain ⟨B, ρ, F, rp, p⟩ := p
  refine ⟨B, ρ, F, rp, p.bind.imp fun ds ρ1 F1 H1 _ e1 rp1 p1 xs hx => ?_⟩
  obtain ⟨z, hz, q⟩ := liftP p1
  have fin : ∀ {a : Addr} {vs : List V} {es : List D}, (SqL X.K H1 a vs ∨ SqT X.K H1 a vs) → RpA X.K F1 vs es → z = .lst es → xs = [V.ref a] → rLstOf X.K xs H1 Q := by
    intro a vs es h1 h2 h3 h4
    subst h3 h4
    refine ⟨a, vs, rfl, h1, fun p hp => ?_⟩
    obtain ⟨r', m2, m4, m6, m5⟩ := rp1.laid (o := .lst vs) hp
    exact q _ _ (Ex.refl F1) r' _ _ ⟨upd_same, m2, .lst h2, m4, m6, m5⟩
  unfold lstF at hz
  split at hz
  · cases hz
    obtain ⟨x, rfl, h⟩ := hx.one_of
    cases h with
    | lst h1 h2 => exact fin (.inl (SqL.of (rp1.sub _ _ h1))) h2 rfl rfl
  · cases hz
    obtain ⟨x, rfl, h⟩ := hx.one_of
    cases h with
    | scr h1 h2 => exact fin (.inl (Evl.ex_l rp1.sub h1)) h2 rfl rfl
  · cases hz
    obtain ⟨x, rfl, h⟩ := hx.one_of
    cases h with
    | tup h1 h2 => exact fin (.inr (Evl.ex_t rp1.sub h1)) h2 rfl rfl
  · cases hz
/-- repr(x) -/
@[simp] def reprF : List D → Option D
  | [d] => if okN 60 d && decide (wD d ≤ 100000) then some (.str (pyD d).shown) else none
  | _ => none
theorem s_repr : ClS K (rShow K) reprF := by
  intro O B ρ σ F H xs ds z Q rp hx hz k
  unfold reprF at hz
  split at hz
  · next d =>
    obtain ⟨x, rfl, h⟩ := hx.one_of
    split at hz
    · next q =>
      cases hz
      rw [Bool.and_eq_true] at q
      obtain ⟨_, a2, a3, a4⟩ := okN_shaped _ _ q.1
      exact ⟨x, _, rfl, Rp.dp _ _ _ q.1 (h.up rp.sub), a3, a4, a2, Evl.sz_of (Nat.le_trans (shown_le _ _ q.1) (of_decide_eq_true q.2)), k _ F H (Ex.refl F) rp (.str _)⟩
    · cases hz
  · cases hz
/-- x.bit_length() -/
@[simp] def bitsD : D → Option D
  | .int i => some (.int (PySem.Builtin.Int.intBits i))
  | _ => none
theorem de_bits {o : Expr} {apos pos : Pos} (h : DE X W O o fa) (hb : attributeBase o "bit_length" X.env (eval o X.env) = eval o X.env := by rfl) (hl : (apos.endLine == pos.line) = true := by rfl) : DE X W O (.Call (.Attribute o "bit_length" apos) [] [] pos) (fUn bitsD fa) := by
  refine ⟨pe_imp (pe_bits h.pe hb hl) fun σ H Q p => ?_⟩
  obtain ⟨B, ρ, F, rp, p⟩ := p
  refine ⟨B, ρ, F, rp, p.bind.imp fun d ρ1 F1 H1 _ e1 rp1 p1 x hx => ?_⟩
  obtain ⟨z, hz, q⟩ := liftP p1
  cases hx <;> cases hz
  exact ⟨_, rfl, q F1 H1 (Ex.refl F1) rp1 _ (.int _)⟩
end
end DL


namespace DL
open PySem PySem.Spec PyProof.Rows L2
open Evl (Ex)

/-! ### the law's own call -/
def gone (h : Heap) (a : Addr) : Heap := { h with objs := h.objs.setIfInBounds a { cls := .none, data := .freed } }
theorem gone_same {h : Heap} {a : Addr} : (gone h a).get? a = none := by
  unfold gone Heap.get?
  rw [Array.getElem?_setIfInBounds]
  by_cases q : a < h.objs.size
  · simp [q]
  · simp [q]
theorem gone_ne {h : Heap} {a b : Addr} (hb : b ≠ a) : (gone h a).get? b = h.get? b := by
  unfold gone Heap.get?
  rw [Array.getElem?_setIfInBounds]
  simp [Ne.symm hb]
theorem gone_size {h : Heap} {a : Addr} : (gone h a).objs.size = h.objs.size := by simp [gone]
theorem gone_ns {h : Heap} {a b : Addr} {m : Str → Option Value} {o : Obj} {vs : Array Value} {n : Nat} (ha : h.get? a = some o) (hd : o.data = .seq vs n) (hn : h.Ns b m) : (gone h a).Ns b m := by
  obtain ⟨o', es, ep, h1, h2, h3, h4⟩ := hn
  have hb : b ≠ a := fun z => by
    rw [z, ha] at h1
    cases h1
    rw [hd] at h2
    cases h2
  exact ⟨o', es, ep, by rw [gone_ne hb]; exact h1, h2, h3, h4⟩
theorem ints_vals0 : ∀ {vs : List Value} {ns : List Int}, IntsAre vs ns → Vals (ns.map V.int) vs
  | _, _, .nil => .nil
  | _, _, .cons n t h => .cons ⟨t, rfl⟩ (ints_vals0 h)
theorem ints_size : ∀ {vs : List Value} {ns : List Int}, IntsAre vs ns → vs.length = ns.length
  | _, _, .nil => rfl
  | _, _, .cons n t h => congrArg Nat.succ (ints_size h)
def lone (a : Addr) (o : Obj) (ns : List Int) : Hp := fun b => if b = a then some (.frz o (.lst (ns.map V.int))) else none
section
variable {P : Program} {w : World} {K : PySem.W.Frag} {mg mb : Str → Option Value} {k : Nat} {fa a : Addr} {fd : FuncData} {x : Str} {sp : Sp} {s₁ : Shared} {vs : List Value} {ns : List Int}
theorem law_callG (hK : K.In s₁.heap) (hg : s₁.heap.Ns mainGlobals mg) (hb : s₁.heap.Ns builtinsNs mb) (hbb : ∀ x : Str, x ≠ "__name__" → mb x = bootBuiltins x) (hl : s₁.heap.NoLimit) (he : s₁.gens = #[])
    (ha : s₁.heap.get? a = some { cls := .type "list", data := .seq vs.toArray }) (hi : IntsAre vs ns) (hn : ns.length ≤ sizeLine) (hr : Room k callerA)
    (G : ∀ base : Heap, K.In base → base.Ns mainGlobals mg → FnG P w K mg base k fa fd [x] sp) (hbd : ∀ (s : Shared) (u : Value), BindsTo s fd { pos := [u] } [(x, u)])
    (hsp : ∀ H : Hp, L2.Only H → SqL K H a (ns.map V.int) → sp [V.ref a] H (fun v _ => v = V.bl true) fun _ _ _ => False) :
    codeAny (model P w) callerA (.call (.ref fa) { pos := [.ref a] }) (fun r s' => r = .ok (.ret (.bool true)) ∧ OldK s₁.heap s'.heap ∧ s'.os = s₁.os ∧ AllBare s'.gens) s₁ := by
  have vv := ints_vals0 hi
  have bare : AllBare s₁.gens := by
    rw [he]
    intro g hg
    simp at hg
  have fin : ∀ (base : Heap) (H : Hp), K.In base → base.Ns mainGlobals mg → base.Ns builtinsNs mb → base.NoLimit → base.objs.size ≤ s₁.heap.objs.size → L2.Only H → SqL K H a (ns.map V.int) → HOk P w H s₁.heap →
      (∀ b o, base.get? b = some o → s₁.heap.get? b = some o ∧ H b = none) → (∀ b o u, H b = some (.frz o u) → s₁.heap.get? b = some o) → (∀ b u, H b = some u → ∃ o u', u = .frz o (.lst u')) →
      codeAny (model P w) callerA (.call (.ref fa) { pos := [.ref a] }) (fun r s' => r = .ok (.ret (.bool true)) ∧ OldK s₁.heap s'.heap ∧ s'.os = s₁.os ∧ AllBare s'.gens) s₁ := by
    intro base H k1 k2 k3 k4 k5 k6 k7 k8 k9 k10 k11
    have E0 : L2.Env0 P w K mg base callerA [] s₁ H := ⟨rfl, ⟨k1, k2, ⟨mb, k3, hbb⟩, k4⟩, k9, k5, trivial, fun b hb => (nomatch hb), k8, bare⟩
    have z := (G base k1 k2).run callerA [] s₁ H { pos := [.ref a] } [.ref a] [V.ref a] _ _ rfl hr E0 (hbd s₁ _) (.cons rfl .nil) (hsp H k6 k7)
    refine codeAny_mono z fun r s2 q => ?_
    rcases r with e | fl
    · obtain ⟨a, B, H', cls, d, _, _, _, _, _, _, _, bad⟩ := q
      exact bad.elim
    · cases fl with
      | ret u =>
        obtain ⟨v, H', q1, q2, q3, q4, q5, rfl⟩ := q
        cases q5
        refine ⟨rfl, ⟨fun b o ho => .inl ?_, fun b o ho => q3.there b o ho (fun z => nomatch z)⟩, q1, q2⟩
        cases hH : H b with
        | none => exact q3.keep b o ho hH (fun z => nomatch z) (fun z => nomatch z)
        | some u =>
          obtain ⟨o', u', rfl⟩ := k11 b u hH
          have e1 := k10 b o' _ hH
          rw [ho] at e1
          cases e1
          have e2 := q3.frzs b o _ hH
          have e3 := q4 b _ e2
          simp only [ObjOk] at e3
          exact e3.1
      | _ => exact q.elim
  cases hq : List.lookup a K with
  | some o =>
    have ho := hK a o hq
    rw [ha] at ho
    cases ho
    refine fin s₁.heap (fun _ => none) hK hg hb hl (Nat.le_refl _) (fun b => .inl rfl) (.inr ⟨_, vs.toArray, 0, hq, rfl, rfl, rfl, ?_, ?_⟩) (fun b o h => (nomatch h)) (fun b o h => ⟨h, rfl⟩) (fun b o u h => (nomatch h)) (fun b u h => (nomatch h))
    · rw [List.size_toArray, ints_size hi]; exact hn
    · exact vv
  | none =>
    refine fin (gone s₁.heap a) (lone a { cls := .type "list", data := .seq vs.toArray } ns) (fun b o h => ?_) (gone_ns ha rfl hg) (gone_ns ha rfl hb) ?_ (Nat.le_of_eq gone_size) (fun b => ?_) (.inl (.inr ⟨_, if_pos rfl⟩)) (fun b o h => ?_) (fun b o h => ?_) (fun b o u h => ?_) (fun b u h => ?_)
    · have nb : b ≠ a := fun z => by rw [z, hq] at h; cases h
      rw [gone_ne nb]
      exact hK b o h
    · obtain ⟨mc, h1, h2⟩ := hl
      exact ⟨mc, gone_ns ha rfl h1, h2⟩
    · unfold lone
      by_cases nb : b = a
      · rw [if_pos nb]; exact .inr ⟨_, _, rfl⟩
      · rw [if_neg nb]; exact .inl rfl
    · unfold lone at h
      by_cases nb : b = a
      · rw [if_pos nb] at h
        cases h
        subst nb
        simp only [ObjOk]
        exact ⟨ha, by rw [List.length_map]; exact hn, vs, 0, vv, ha⟩
      · rw [if_neg nb] at h; cases h
    · have nb : b ≠ a := fun z => by rw [z, gone_same] at h; cases h
      rw [gone_ne nb] at h
      exact ⟨h, if_neg nb⟩
    · unfold lone at h
      by_cases nb : b = a
      · rw [if_pos nb] at h
        cases h
        rw [nb]; exact ha
      · rw [if_neg nb] at h; cases h
    · unfold lone at h
      by_cases nb : b = a
      · rw [if_pos nb] at h
        exact ⟨_, _, (Option.some.inj h).symm⟩
      · rw [if_neg nb] at h; cases h
end
theorem walkG {l : PySem.W.OpenLaw} {n k : Nat} {q : Program} {loose : List Str} {XP : (Str → Option Value) → Heap → Prop} {YP : World → Heap → Prop} {d : DefRec} {K : Params → PySem.W.Frag} {sp : MG → PySem.W.Frag → Sp} {x : Str}
    (hm : l.most = some n) (hn : n ≤ sizeLine) (hd : d.params.defaults = []) (hr : Room k callerA) (hK : ∀ (w : World) (h : Heap), YP w h → (K w.params).In h)
    (hG : ∀ (w : World) (mg : Str → Option Value) (fa : Addr) (h : Heap), (K w.params).In h → h.Ns mainGlobals mg → mg d.name = some (.ref fa) →
      ∃ fd, (∀ (s : Shared) (u : Value), BindsTo s fd { pos := [u] } [(x, u)]) ∧ ∀ base : Heap, (K w.params).In base → base.Ns mainGlobals mg → FnG l.prog w (K w.params) mg base k fa fd [x] (sp mg (K w.params)))
    (hsp : ∀ (mg : MG) (K : PySem.W.Frag) (H : Hp) (a : Addr) (ns : List Int), ns.length ≤ n → L2.Only H → SqL K H a (ns.map V.int) → sp mg K [V.ref a] H (fun v _ => v = V.bl true) fun _ _ _ => False) :
    PySem.W.WalkO q loose XP YP l.row.toRowW d [] fun f vs => PySem.call f vs := by
  refine Att.attach_call hm hd fun w s₀ s₁ mg mb fa o pm cd doc a vs ns gr yp h1 h2 h3 h4 h5 h6 h7 h8 => ?_
  obtain ⟨fd, bd, G⟩ := hG w mg fa s₁.heap (hK w _ yp) gr.T.g h4
  exact law_callG (hK w _ yp) gr.T.g gr.T.b gr.T.builtins gr.T.nolimit h8 h5 h6 (Nat.le_trans h7 hn) hr G bd fun H h9 h10 => hsp _ _ H a ns h7 h9 h10
/-- a law over data: all is well where its denotation says True -/
theorem spec_law {K : PySem.W.Frag} {mg : MG} {g : List D → R0} {n : Nat} (h : ∀ ns : List Int, ns.length ≤ n → g [.scr (ns.map D.int)] = .ok (.bl true)) :
    ∀ (H : Hp) (a : Addr) (ns : List Int), ns.length ≤ n → L2.Only H → SqL K H a (ns.map V.int) → SpP K mg false g [V.ref a] H (fun v _ => v = V.bl true) fun _ _ _ => False := by
  intro H a ns hl ho hs
  have all : ∀ ms : List Int, RpA K H (ms.map V.int) (ms.map D.int) := by
    intro ms
    induction ms with
    | nil => exact .nil
    | cons m r ih => exact .cons (.int m) ih
  refine ⟨H, [.scr (ns.map D.int)], Ex.refl H, .cons (.scr hs (all ns)) .nil, ?_⟩
  rw [h ns hl]
  intro F' H' gr v hv
  cases hv
  rfl
end DL


namespace DL
open PySem PySem.Spec PyProof.Rows L2
open Evl (Ex)
theorem hu60 {k : Nat} {A : Around} (h : Room k A) : A.units + 64 < cLine := by have := h.un; omega
theorem hu65 {k : Nat} {A : Around} (h : Room k A) : A.units + 65 < cLine := by have := h.un; omega
/-- a def of the module: what the top has written -/
structure TopF (K : PySem.W.Frag) (mg : MG) (x : Str) (st : Stmt) (ps : List Str) where
  f : Addr
  d : FuncData
  F : Fun K x x st f d
  m : mg x = some (.ref f)
  b : Binds K d ps []
@[simp] def ltD : D → D → Option D := iibD fun i j => decide (i < j)
@[simp] def leD : D → D → Option D := iibD fun i j => decide (i ≤ j)
@[simp] def gtD : D → D → Option D := iibD fun i j => decide (j < i)
@[simp] def geD : D → D → Option D := iibD fun i j => decide (j ≤ i)
section
variable {K : PySem.W.Frag} {X : Cx} {W : WX} {O : List Nat} {fa : Env → R D}
theorem s_lt : OpS K (rI0 fun i j => V.bl (decide (i < j))) ltD := s_iib
theorem s_le : OpS K (rI0 fun i j => V.bl (decide (i ≤ j))) leD := s_iib
theorem s_gt : OpS K (rI0 fun i j => V.bl (decide (j < i))) gtD := s_iib
theorem s_ge : OpS K (rI0 fun i j => V.bl (decide (j ≤ i))) geD := s_iib
/-- a, b = e1, e2 -/
@[simp] def sPar (i j : Nat) (fr : DL.Env → R (List D)) (ρ : DL.Env) : Out := rOut (fr ρ) fun ds ρ1 => match ds with
  | [d, e] => .nx ((ρ1.set i (some d)).set j (some e))
  | _ => .bad
theorem ds_par {own : Bool} {Ol : List Nat} {fr : DL.Env → R (List D)} (i j : Nat) {x y : Str} {a b : Expr} {px py pt pos : Pos} {kt k2 : Nat} {pt2 : Pos} (hc : X.calm = true) (hN : X.N.Nodup) (h : DA X W O [a, b] fr) (hij : i ≠ j) (hw : swappedStores [.Tuple [.Name x px, .Name y py] kt pt] (.Tuple [a, b] k2 pt2) X.env = pure (some [x, y])) (oi : decide (i ∈ O) = false := by rfl) (oj : decide (j ∈ O) = false := by rfl)
    (hi : X.N[i]? = some x := by rfl) (hj : X.N[j]? = some y := by rfl) (lx : List.lookup x X.env.scope.names = some NameKind.local := by rfl) (ly : List.lookup y X.env.scope.names = some NameKind.local := by rfl)
    (hs : swapsWithSole [.Tuple [.Name x px, .Name y py] kt pt] (.Tuple [a, b] k2 pt2) pos.line X.env = pure false := by rfl) : DS X W own Ol O (.Assign [.Tuple [.Name x px, .Name y py] kt pt] (.Tuple [a, b] k2 pt2) pos) O (sPar i j fr) := by
  refine ⟨ps_imp (ps_par hc hN hi hj hij lx ly h.pa hw hs) fun E σ H p => ?_⟩
  obtain ⟨B, ρ, F, rp, p⟩ := p
  refine ⟨B, ρ, F, rp, (SPost.val p).imp fun ds ρ1 F1 H1 _ e1 rp1 p1 xs hx => ?_⟩
  split at p1
  · obtain ⟨v, u, rfl, h1, h2⟩ := hx.two_of
    exact ⟨v, u, rfl, p1 _ F1 H1 (Ex.refl F1) ((rp1.store (of_decide_eq_false oi) h1).store (of_decide_eq_false oj) h2)⟩
  · exact p1.elim
end
/-! ### x[::-1] -/
theorem range_get {α : Type} : ∀ (ys : List α), (List.range ys.length).filterMap (fun k => ys[k]?) = ys := by
  intro ys
  induction ys with
  | nil => rfl
  | cons y r ih =>
    rw [List.length_cons, List.range_succ_eq_map, List.filterMap_cons]
    simp only [List.getElem?_cons_zero]
    rw [List.filterMap_map]
    congr 1
theorem fm_congr {α β : Type} {f g : α → Option β} : ∀ {l : List α}, (∀ x, x ∈ l → f x = g x) → l.filterMap f = l.filterMap g
  | [], _ => rfl
  | x :: r, h => by
    rw [List.filterMap_cons, List.filterMap_cons, h x List.mem_cons_self, fm_congr fun y hy => h y (List.mem_cons_of_mem _ hy)]
theorem rev_list {α : Type} (xs : Array α) : (List.range xs.size).filterMap (fun k : Nat => xs[((xs.size : Int) - 1 + (k : Int) * (-1)).toNat]?) = xs.toList.reverse := by
  have e2 : (List.range xs.size).filterMap (fun k : Nat => xs[((xs.size : Int) - 1 + (k : Int) * (-1)).toNat]?) = (List.range xs.size).filterMap (fun k => xs.toList.reverse[k]?) := by
    refine fm_congr fun k hk => ?_
    have hk := List.mem_range.mp hk
    rw [List.getElem?_reverse (by simpa using hk), Array.getElem?_toList, Array.length_toList]
    congr 1
    omega
  rw [e2]
  have := range_get xs.toList.reverse
  rw [List.length_reverse, Array.length_toList] at this
  exact this
@[simp] def revD : D → Option D
  | .tup xs => some (.tup xs.reverse)
  | .lst xs => some (.lst xs.reverse)
  | _ => none
theorem rev_applied {prog : Program} {w : World} {A : Around} {E : Value → Shared → Prop} {s : Shared} {sl : Addr} {u : Tok} {n : Nat} {Q : Int × Int × Nat → Shared → Prop} (h : s.heap.IsSliceOf sl .none .none (.int (-1) u)) (q : Q ((n : Int) - 1, -1, n) s) :
    wpAny (model prog w) A (Builtin.Slice.sliceApplied (.ref sl) (pure (n : Int))) Q E s := by
  obtain ⟨o, h1, h2, h3⟩ := h
  unfold Builtin.Slice.sliceApplied Builtin.Slice.sliceFields
  refine wpAny_bind (wpAny_bind (wpAny_field h1 h3 rfl (wpAny_bind (wpAny_field h1 h3 rfl (wpAny_bind (wpAny_field h1 h3 rfl (wpAny_pure ?_)))))))
  refine wpAny_bind (slicePart_int ?_)
  have e : ((-1 : Int) == 0) = false := by decide
  simp only [Option.getD_some, e]
  refine wpAny_bind (HT.slicePart_ .none ?_)
  refine wpAny_bind (HT.slicePart_ .none ?_)
  refine wpAny_bind (wpAny_pure ?_)
  have e2 : Builtin.Slice.sliceAdjust none none (-1) (n : Int) = ((n : Int) - 1, -1) := by
    unfold Builtin.Slice.sliceAdjust
    simp
  rw [e2]
  have e3 : Builtin.Slice.slicePlaces ((n : Int) - 1) (-1) (-1) = n := by
    unfold Builtin.Slice.slicePlaces
    rw [if_neg (by decide)]
    by_cases hn : n = 0
    · subst hn; decide
    · rw [if_pos (by omega), show -(-1 : Int) = 1 by decide, Int.ediv_one]
      omega
  show wpAny _ _ (pure ((n : Int) - 1, -1, Builtin.Slice.slicePlaces ((n : Int) - 1) (-1) (-1))) Q E s
  rw [e3]
  exact wpAny_pure q
theorem getItem_tuple_rev {prog : Program} {w : World} {A : Around} {E : Value → Shared → Prop} {s : Shared} {t sl : Addr} {u : Tok} {items : Array Value} {Q : Value → Shared → Prop} (ht : IsTup s.heap t items) (hz : items.size ≤ sizeLine) (h : s.heap.IsSliceOf sl .none .none (.int (-1) u))
    (q : Q (.ref s.heap.objs.size) { s with heap := s.heap.push { cls := .type "tuple", data := .seq items.toList.reverse.toArray } }) : wpAny (model prog w) A (getItem (.ref t) (.ref sl)) Q E s := by
  have hty : s.TypeIs (.ref t) "tuple" := by
    obtain ⟨o, h1, h2, _⟩ := ht
    exact ⟨o, h1, h2⟩
  refine getItem_meets (T := "tuple") (id := "tuple.__getitem__") (B := Builtin.«tuple.__getitem__») (S := fun A R s' => IsTup s'.heap t items ∧ s'.heap.IsSliceOf sl .none .none (.int (-1) u) ∧ R (.ok (.ret (.ref s'.heap.objs.size))) { s' with heap := s'.heap.push { cls := .type "tuple", data := .seq items.toList.reverse.toArray } }) hty (by decide) PySem.F.slot_tuple_getitem PySem.F.entry_tuple_getitem (PySem.F.args_tuple_getitem_2 _ _) ?_ ⟨ht, h, q⟩
  intro prog w A R s ⟨ht, h, q⟩
  unfold Builtin.«tuple.__getitem__»
  refine wpAny_bind (show wpAny _ _ (pure (Value.ref t, [Value.ref sl])) _ _ _ from wpAny_pure ?_)
  refine wpAny_bind (tupleItemsOf_ ht ?_)
  refine wpAny_bind (wpAny_typeOf (T := "slice") ?_ ?_)
  · obtain ⟨o, h1, h2, _⟩ := h
    exact ⟨o, h1, h2⟩
  have e1 : (Value.type "slice" == Value.type "slice") = true := by decide
  simp only [e1]
  refine wpAny_bind (rev_applied h ?_)
  have e2 : ((items.size : Int) - 1 == 0 && (-1 : Int) == 1 && items.size == items.size) = false := by simp
  simp only [e2]
  refine wpAny_bind ?_
  unfold Builtin.Tuple.tupleExact
  rw [rev_list]
  refine wpAny_newObj_type ?_ ?_
  · exact wpAny_pure q
  · simp [sizeOk]
    omega

variable {X : Cx} {W : WX} {O : List Nat} {fa : DL.Env → R D}
def tRevT (K : PySem.W.Frag) (te : TE) : TE := fun σ H Q => te σ H fun x H1 => ∃ a xs, x = V.ref a ∧ SqT K H1 a xs ∧ ∀ p, H1 p = none → Q (V.ref p) (upd H1 p (.tup xs.reverse))
theorem vals_rev : ∀ {xs : List V} {us : List Value}, Vals xs us → Vals xs.reverse us.reverse := by
  intro xs us h
  induction h with
  | nil => exact .nil
  | cons h t ih =>
    simp only [List.reverse_cons]
    exact ih.append (.cons h .nil)
theorem pe_revT {e : Expr} {te : TE} {k : Nat} {p1 p2 p3 pos : Pos} (h : PE X e te) (hl : ∀ o r : Value, letTemporaryGo e o r = pure () := by intro _ _; rfl) : PE X (.Subscript e (.Slice none none (some (.UnaryOp .USub (.Constant (.int 1) k p1) p2)) p3) pos) (tRevT X.K te) := by
  constructor
  intro pins s σ H Q I q
  refine wpAny_Subscript_Slice_step (T := "tuple") (id := "tuple.__getitem__") (by first | exact PySem.F.slot_tuple_getitem.1 | exact PySem.F.slot_tuple_getitem | rfl) (thn (h.run pins s σ H _ I q) fun u s1 z => ?_) hl
  obtain ⟨v, H1, I1, r1, a, xs, rfl, h1, q1⟩ := z
  cases r1
  refine wpAny_Slice (show wpAny _ _ (pure Value.none) _ _ _ from wpAny_pure (show wpAny _ _ (pure Value.none) _ _ _ from wpAny_pure ?_))
  have hm : PE X (.UnaryOp .USub (.Constant (.int 1) k p1) p2) (fun σ H Q => Q (V.int (-1)) H) := ⟨fun pins s σ H Q I q => (pe_un un_neg pe_int).run pins s σ H Q I ⟨1, rfl, q⟩⟩
  refine thn (hm.run pins s1 σ H1 (fun v H' => v = V.int (-1) ∧ H' = H1) I1 ⟨rfl, rfl⟩) fun m s2 z => ?_
  obtain ⟨v, H2, I2, r2, rfl, rfl⟩ := z
  obtain ⟨tk, rfl⟩ := r2
  have I3 : L2.Inv X pins σ H2 { heap := s2.heap.push { cls := Value.type "slice", data := Data.fields #[Value.none, Value.none, Value.int (-1) tk] }, gens := s2.gens, drawn := s2.drawn, toks := s2.toks, os := s2.os } := I2.kept fun b u e => Heap.get?_push_of_some _ e
  obtain ⟨its, v1, v2, v3⟩ := I3.tuple h1
  refine ⟨?_, getItem_tuple_rev v2 ?_ (Heap.IsSliceOf.new _ _ _ _) ?_⟩
  · obtain ⟨o, g1, g2, _⟩ := v2
    exact ⟨o, g1, g2⟩
  · rw [List.size_toArray, ← v1.length]; exact v3
  · have nw := I3.fresh
    refine ⟨V.ref _, _, I3.laid (t' := s2.toks) (o := .tup xs.reverse) (fun b u e => Heap.get?_push_of_some _ e) (Nat.le_refl _) ?_, rfl, q1 _ nw⟩
    simp only [ObjOk]
    refine ⟨by rw [List.length_reverse]; exact v3, its.reverse, vals_rev v1, _, Heap.get?_push_size _ rfl, rfl, 0, ?_⟩
    rfl
theorem de_rev {e : Expr} {k : Nat} {p1 p2 p3 pos : Pos} (h : DE X W O e fa) (hl : ∀ o r : Value, letTemporaryGo e o r = pure () := by intro _ _; rfl) : DE X W O (.Subscript e (.Slice none none (some (.UnaryOp .USub (.Constant (.int 1) k p1) p2)) p3) pos) (fUn revD fa) := by
  refine ⟨⟨fun pins s σ H Q I z => ?_⟩⟩
  obtain ⟨B, ρ, F, rp, p⟩ := z
  have p := p.bind
  have pl := pe_revL (k := k) (p1 := p1) (p2 := p2) (p3 := p3) (pos := pos) h.pe
  have pt := pe_revT (k := k) (p1 := p1) (p2 := p2) (p3 := p3) (pos := pos) h.pe hl
  cases hf : fa ρ with
  | bad => rw [hf] at p; exact p.elim
  | exc c d ρ' =>
    rw [hf] at p
    exact pl.run pins s σ H Q I ⟨B, ρ, F, rp, by rw [hf]; exact p⟩
  | ok d ρ' =>
    rw [hf] at p
    cases d with
    | lst ds =>
      refine pl.run pins s σ H Q I ⟨B, ρ, F, rp, ?_⟩
      rw [hf]
      intro F' H' e r x hx
      obtain ⟨z, hz, q⟩ := liftP (p F' H' e r)
      cases hz
      cases hx with
      | lst h1 h2 =>
        refine ⟨_, _, rfl, SqL.of (r.sub _ _ h1), fun p hp => ?_⟩
        obtain ⟨ex, r'⟩ := r.alloc (o := .lst _) hp
        exact q _ _ ex r' _ (.lst upd_same (h2.rev.up ex))
    | tup ds =>
      refine pt.run pins s σ H Q I ⟨B, ρ, F, rp, ?_⟩
      rw [hf]
      intro F' H' e r x hx
      obtain ⟨z, hz, q⟩ := liftP (p F' H' e r)
      cases hz
      cases hx with
      | tup h1 h2 =>
        refine ⟨_, _, rfl, Evl.ex_t r.sub h1, fun p hp => ?_⟩
        obtain ⟨ex, r'⟩ := r.alloc (o := .tup _) hp
        exact q _ _ ex r' _ (.tup (SqT.of upd_same) (h2.rev.up ex))
    | _ =>
      refine pl.run pins s σ H Q I ⟨B, ρ, F, rp, ?_⟩
      rw [hf]
      intro F' H' e r x hx
      obtain ⟨z, hz, q⟩ := liftP (p F' H' e r)
      cases hz
end DL


namespace DL
open PySem PySem.Spec PyProof.Rows L2
theorem topF_ex {K : PySem.W.Frag} {h : Heap} {mg : MG} {x : Str} {st : Stmt} {ps : List Str} {f : Addr} {oc : Value} {od an : Option Addr} {osl : Array (Option Value)} {kV doc pm cdv ct : Value}
    (X : K.In h) (G : h.Ns mainGlobals mg) (a : PySem.W.nsIn K mainGlobals x = some (some (.ref f)))
    (l : List.lookup f K = some ⟨oc, od, .func (PySem.W.fnOf x x (defArgs st) (defBody st) (defScope st) .none kV doc pm an cdv ct), osl⟩) (c : PySem.W.codeIn K cdv x = true) (k : PySem.W.keepIn K (.ref f) = true)
    (b : ∀ (kV doc pm : Value) (an : Option Addr) (cdv ct : Value) (us : List Value), us.length = ps.length → bindArgs (PySem.W.fnOf x x (defArgs st) (defBody st) (defScope st) .none kV doc pm an cdv ct) { pos := us } = pure (ps.zip us)) : Nonempty (TopF K mg x st ps) :=
  ⟨⟨f, _, fun_mk l c k, PySem.W.mg_of X G a, (fun_mk l c k).binds b⟩⟩
theorem bt_of {K : PySem.W.Frag} {x : Str} {st : Stmt} {ps : List Str} {f : Addr} {d : FuncData} (F : Fun K x x st f d)
    (b : ∀ (kV doc pm : Value) (an : Option Addr) (cdv ct : Value) (us : List Value), us.length = ps.length → bindArgs (PySem.W.fnOf x x (defArgs st) (defBody st) (defScope st) .none kV doc pm an cdv ct) { pos := us } = pure (ps.zip us)) (s : Shared) (us : List Value) (hl : us.length = ps.length) : BindsTo s d { pos := us } (ps.zip us) := by
  obtain ⟨oc, od, kV, doc, pm, an, cdv, ct, osl, rfl, _, _⟩ := F.ex
  exact .of_eq (b kV doc pm an cdv ct us hl)
theorem kw_of {K : PySem.W.Frag} {x : Str} {st : Stmt} {ps ks : List Str} {pm' : List Nat} {f : Addr} {d : FuncData} (F : Fun K x x st f d)
    (b : ∀ (kV doc pm : Value) (an : Option Addr) (cdv ct : Value) (ws : List Value), ws.length = ks.length → bindArgs (PySem.W.fnOf x x (defArgs st) (defBody st) (defScope st) .none kV doc pm an cdv ct) ⟨[], ks.zip ws⟩ = pure (ps.zip (permL pm' ws))) : KwBinds K d ps ks pm' := by
  obtain ⟨oc, od, kV, doc, pm, an, cdv, ct, osl, rfl, _, _⟩ := F.ex
  exact fun s ws hl => .of_eq (b kV doc pm an cdv ct ws hl)
end DL


namespace DL
open PySem PySem.Spec PyProof.Rows L2
/-! ### data that the top has written: read off the frozen part -/
def allO : List (Option D) → Option (List D)
  | [] => some []
  | some d :: r => (allO r).map (d :: ·)
  | none :: _ => none
def rdK (K : PySem.W.Frag) : Nat → Value → Option D
  | _, .none => some .non
  | _, .bool b => some (.bl b)
  | _, .int i _ => some (.int i)
  | _, .str x _ => some (.str x)
  | n + 1, .ref a => match K.lookup a with
    | some ⟨.type t, none, .seq its _, _⟩ => if t = "tuple" ∧ its.size ≤ sizeLine then (allO (its.toList.map (rdK K n))).map .tup else none
    | _ => none
  | _, _ => none
theorem allO_some : ∀ {us : List (Option D)} {ds : List D}, allO us = some ds → us = ds.map some
  | [], ds, h => by cases h; rfl
  | some d :: r, ds, h => by
    unfold allO at h
    cases e : allO r with
    | none => rw [e] at h; cases h
    | some es => rw [e] at h; cases h; rw [allO_some e]; rfl
  | none :: r, ds, h => by cases h
theorem rdK_ok {K : PySem.W.Frag} : ∀ (n : Nat) (u : Value) (d : D), rdK K n u = some d → ∃ w, RelV w u ∧ ∀ F, Rp K F w d := by
  intro n
  induction n with
  | zero =>
    intro u d h
    cases u <;> simp only [rdK] at h <;> first | (cases h; done) | skip
    · cases h; exact ⟨.non, rfl, fun F => .non⟩
    · cases h; exact ⟨.bl _, rfl, fun F => .bl _⟩
    · cases h; exact ⟨.int _, ⟨_, rfl⟩, fun F => .int _⟩
    · cases h; exact ⟨.str _, ⟨_, rfl⟩, fun F => .str _⟩
  | succ n ih =>
    intro u d h
    cases u with
    | none => cases h; exact ⟨.non, rfl, fun F => .non⟩
    | bool b => cases h; exact ⟨.bl _, rfl, fun F => .bl _⟩
    | int i t => cases h; exact ⟨.int _, ⟨_, rfl⟩, fun F => .int _⟩
    | str x t => cases h; exact ⟨.str _, ⟨_, rfl⟩, fun F => .str _⟩
    | ref a =>
      simp only [rdK] at h
      split at h
      · next t its k o4 hk =>
        split at h
        · next hs =>
          obtain ⟨rfl, hs⟩ := hs
          cases e : allO (its.toList.map (rdK K n)) with
          | none => rw [e] at h; cases h
          | some ds =>
            rw [e] at h
            cases h
            have e2 := allO_some e
            have key : ∀ (vs : List Value) (es : List D), vs.map (rdK K n) = es.map some → ∃ ws, Vals ws vs ∧ ∀ F, RpA K F ws es := by
              intro vs
              induction vs with
              | nil =>
                intro es he
                cases es with
                | nil => exact ⟨[], .nil, fun F => .nil⟩
                | cons _ _ => cases he
              | cons v r ih2 =>
                intro es he
                cases es with
                | nil => cases he
                | cons d es =>
                  injection he with h1 h2
                  obtain ⟨w, r1, r2⟩ := ih v d h1
                  obtain ⟨ws, r3, r4⟩ := ih2 es h2
                  exact ⟨w :: ws, .cons r1 r3, fun F => .cons (r2 F) (r4 F)⟩
            obtain ⟨ws, r1, r2⟩ := key _ _ e2
            exact ⟨V.ref a, rfl, fun F => .tup (.inr ⟨_, its, k, hk, rfl, rfl, hs, r1⟩) (r2 F)⟩
        · cases h
      · cases h
    | _ => cases h
theorem rdK_tup {K : PySem.W.Frag} {n : Nat} {u : Value} {ds : List D} (h : rdK K n u = some (.tup ds)) : ∃ a o, u = .ref a ∧ K.lookup a = some o ∧ o.cls = .type "tuple" ∧ o.dict = none := by
  cases n with
  | zero => cases u <;> simp only [rdK] at h <;> cases h
  | succ n =>
    cases u with
    | ref a =>
      simp only [rdK] at h
      split at h
      · next t its k o4 hk =>
        split at h
        · next hs => exact ⟨a, _, rfl, hk, by rw [hs.1], rfl⟩
        · cases h
      · cases h
    | _ => simp only [rdK] at h; cases h
/-- a name of the module that stands for written data -/
structure GlobT (K : PySem.W.Frag) (mg : MG) (x : Str) (d : D) : Prop where
  ex : ∃ u, mg x = some u ∧ rdK K 8 u = some d
theorem globT_ex {K : PySem.W.Frag} {h : Heap} {mg : MG} {x : Str} {u : Value} {d : D} (X : K.In h) (G : h.Ns mainGlobals mg)
    (a : PySem.W.nsIn K mainGlobals x = some (some u)) (k : rdK K 8 u = some d) : GlobT K mg x d := ⟨⟨u, PySem.W.mg_of X G a, k⟩⟩
section
variable {X : Cx} {W : WX} {O : List Nat}
theorem de_gdat {x : Str} {d : D} {pos : Pos} (g : GlobT X.K X.mg x d) (hg : Gl X x := by rfl) (hd : (x == ("__debug__" : Str)) = false := by decide) : DE X W O (.Name x pos) (fC d) := by
  obtain ⟨u, h1, h2⟩ := g.ex
  obtain ⟨w, r1, r2⟩ := rdK_ok 8 u d h2
  exact ⟨pe_imp (pe_glob (v := w) hg h1 r1 hd) fun _ _ _ p => espec_c r2 p⟩
end
end DL


namespace DL
open PySem PySem.Spec PyProof.Rows L2
open Evl (Ex)
/-! ### the place of a text in a tuple, in a list -/
@[simp] def strsD : List D → Option (List Str)
  | [] => some []
  | .str x :: r => (strsD r).map (x :: ·)
  | _ :: _ => none
@[simp] def findS (z : Str) : List Str → Option Nat
  | [] => none
  | y :: r => if y = z then some 0 else (findS z r).map (· + 1)
@[simp] def idxT : D → D → Option D
  | .tup xs, .str z => match strsD xs with
    | some ys => (findS z ys).map fun j => .int (j : Nat)
    | none => none
  | _, _ => none
@[simp] def idxL : D → D → Option D
  | .lst xs, .str z => match strsD xs with
    | some ys => (findS z ys).map fun j => .int (j : Nat)
    | none => none
  | _, _ => none
@[simp] def fIdxL (fa fb : Env → R D) (ρ : Env) : R D := (fa ρ).bind fun d ρ1 => match d with
  | .lst xs => (fb ρ1).bind fun e ρ2 => lift (idxL (.lst xs) e) ρ2
  | _ => .bad
theorem findS_ok {z : Str} : ∀ {ys : List Str} {j : Nat}, findS z ys = some j → ys[j]? = some z ∧ ∀ m, m < j → ys[m]? ≠ some z
  | [], j, h => by cases h
  | y :: r, j, h => by
    unfold findS at h
    split at h
    · next e => cases h; exact ⟨by rw [e]; rfl, fun m hm => absurd hm (Nat.not_lt_zero m)⟩
    · next e =>
      cases hf : findS z r with
      | none => rw [hf] at h; cases h
      | some i =>
        rw [hf] at h
        have e2 : j = i + 1 := (Option.some.inj h).symm
        subst e2
        obtain ⟨h1, h2⟩ := findS_ok hf
        refine ⟨by simpa using h1, fun m hm => ?_⟩
        cases m with
        | zero => simp only [List.getElem?_cons_zero]; exact fun q => e (Option.some.inj q)
        | succ m => simp only [List.getElem?_cons_succ]; exact h2 m (by omega)

theorem strsD_ok {K : PySem.W.Frag} {F : Hp} : ∀ {xs : List V} {ds : List D} {ys : List Str}, RpA K F xs ds → strsD ds = some ys → xs = ys.map V.str
  | _, _, _, .nil, h => by cases h; rfl
  | _, _, _, .cons (d := d) (ds := ds) hx ha, h => by
    cases d <;> simp only [strsD] at h <;> first | (cases h; done) | skip
    rename_i x
    cases e : strsD ds with
    | none => rw [e] at h; cases h
    | some zs =>
      rw [e] at h
      cases h
      cases hx
      rw [strsD_ok ha e]
      rfl
section
variable {X : Cx} {W : WX} {O : List Nat} {fa fb : Env → R D}
/-- a written tuple of the module, by its name -/
theorem de_idxG {x : Str} {ds : List D} {ppos : Pos} {e : Expr} {apos cpos : Pos} (g : GlobT X.K X.mg x (.tup ds)) (he : DE X W O e fb) (hg : Gl X x := by rfl) (hd : (x == ("__debug__" : Str)) = false := by decide)
    (hbase : attributeBase (.Name x ppos) ("index" : Str) X.env (eval (.Name x ppos) X.env) = eval (.Name x ppos) X.env := by rfl)
    (hfew : ((backTo cpos (starEach [e] X.env)).all (fun x => !x.1) && (backToKw cpos (keywordEach [] X.env)).all (fun x => x.1.isSome)
      && decide (([e] : List Expr).length + ([] : List Keyword).length + (if ([] : List Keyword).isEmpty then 0 else 1) < 30)) = true := by rfl)
    (hline : (apos.endLine == cpos.line) = true := by rfl) (hs : starEach [e] X.env = (false, eval e X.env) :: starEach [] X.env := by rfl) (hplain : (backTo cpos (starEach [] X.env)).any (·.1) = false := by rfl) :
    DE X W O (.Call (.Attribute (.Name x ppos) "index" apos) [e] [] cpos) (fOp idxT (fC (.tup ds)) fb) := by
  obtain ⟨u, h1, h2⟩ := g.ex
  obtain ⟨w, r1, r2⟩ := rdK_ok 8 u _ h2
  obtain ⟨a, o, rfl, k1, k2, k3⟩ := rdK_tup h2
  have hw : w = V.ref a := by cases r2 (fun _ => none) with
    | tup _ _ => exact congrArg V.ref (Value.ref.inj r1).symm
  subst hw
  refine ⟨pe_imp (pe_bm PySem.F.plainAttrs_tuple PySem.F.slot_tuple_index PySem.F.type_tuple_index mt_tup_index (pe_glob (v := V.ref a) hg h1 r1 hd) (pa_cons he.pe pa_nil hs) hbase hfew hline hs hplain) fun σ H Q p => ?_⟩
  obtain ⟨B, ρ, F, rp, p⟩ := p
  refine ⟨.inr (.inl ⟨rfl, o, k1, k2, k3⟩), ?_⟩
  refine ⟨B, ρ, F, rp, (GPost.bind (r := fb ρ) (by simpa only [fOp, fC, R.bind] using p)).imp fun z ρ2 F2 H2 hq2 e2 rp2 p2 y hy => ?_⟩
  obtain ⟨t, ht, q⟩ := liftP p2
  cases z <;> simp only [idxT] at ht <;> first | (cases ht; done) | skip
  rename_i z
  cases hsd : strsD ds with
  | none => rw [hsd] at ht; cases ht
  | some ys =>
    rw [hsd] at ht
    simp only at ht
    cases hf : findS z ys with
    | none => rw [hf] at ht; cases ht
    | some j =>
      rw [hf] at ht
      cases ht
      cases hy
      obtain ⟨f1, f2⟩ := findS_ok hf
      have hq := r2 F2
      cases hq with
      | tup q1 q2 =>
        have e := strsD_ok q2 hsd
        subst e
        exact ⟨a, ys, z, j, rfl, rfl, Evl.ex_t rp2.sub q1, f1, f2, q F2 H2 (Ex.refl F2) rp2 _ (.int _)⟩
/-- a written list -/
theorem de_idxL {o e : Expr} {apos cpos : Pos} (ho : DE X W O o fa) (he : DE X W O e fb)
    (hbase : attributeBase o ("index" : Str) X.env (eval o X.env) = eval o X.env := by rfl)
    (hfew : ((backTo cpos (starEach [e] X.env)).all (fun x => !x.1) && (backToKw cpos (keywordEach [] X.env)).all (fun x => x.1.isSome)
      && decide (([e] : List Expr).length + ([] : List Keyword).length + (if ([] : List Keyword).isEmpty then 0 else 1) < 30)) = true := by rfl)
    (hline : (apos.endLine == cpos.line) = true := by rfl) (hs : starEach [e] X.env = (false, eval e X.env) :: starEach [] X.env := by rfl) (hplain : (backTo cpos (starEach [] X.env)).any (·.1) = false := by rfl) :
    DE X W O (.Call (.Attribute o "index" apos) [e] [] cpos) (fIdxL fa fb) := by
  refine ⟨pe_imp (pe_bm PySem.F.plainAttrs_list PySem.F.slot_list_index PySem.F.type_list_index mt_index ho.pe (pa_cons he.pe pa_nil hs) hbase hfew hline hs hplain) fun σ H Q p => ?_⟩
  obtain ⟨B, ρ, F, rp, p⟩ := p
  refine ⟨B, ρ, F, rp, p.bind.imp fun d ρ1 F1 H1 _ e1 rp1 p1 x hx => ?_⟩
  cases d with
  | lst xs =>
    cases hx with
    | lst s1 s2 =>
      rename_i a vs
      refine ⟨.inl ⟨rfl, vs, SqL.of (rp1.sub _ _ s1)⟩, ?_⟩
      refine ⟨B, ρ1, F1, rp1, p1.bind.imp fun z ρ2 F2 H2 hq2 e2 rp2 p2 y hy => ?_⟩
      obtain ⟨t, ht, q⟩ := liftP p2
      cases z <;> simp only [idxL] at ht <;> first | (cases ht; done) | skip
      rename_i z
      cases hsd : strsD xs with
      | none => rw [hsd] at ht; cases ht
      | some ys =>
        rw [hsd] at ht
        simp only at ht
        cases hf : findS z ys with
        | none => rw [hf] at ht; cases ht
        | some j =>
          rw [hf] at ht
          cases ht
          cases hy
          obtain ⟨f1, f2⟩ := findS_ok hf
          have e := strsD_ok s2 hsd
          subst e
          have at' : ∀ (m : Nat) (v : V), (ys.map V.str)[m]? = some v → ∃ y, ys[m]? = some y ∧ v = .str y := fun m v hm => by
            rw [List.getElem?_map] at hm
            cases h : ys[m]? with
            | none => rw [h] at hm; cases hm
            | some y => rw [h] at hm; cases hm; exact ⟨y, rfl, rfl⟩
          refine ⟨a, ys.map V.str, .str z, j, .str z, rfl, rfl, SqL.of (rp2.sub _ _ (e2 _ _ s1)), rfl, flat_strs ys, by rw [List.getElem?_map, f1]; rfl, by simp [eqV], fun m v hm hv => ?_, q F2 H2 (Ex.refl F2) rp2 _ (.int _)⟩
          obtain ⟨y, hy, rfl⟩ := at' m v hv
          simp only [eqV, beq_eq_false_iff_ne]
          exact fun e => f2 m hm (by rw [hy, e])
  | _ => exact p1.elim
end
end DL


namespace DL
open PySem PySem.Spec PyProof.Rows L2
open Evl (Ex)
open RZ (ItzT pi_zipA)
/-! ### two at once -/
@[simp] def pairD : List D → List D → List D
  | x :: xs, y :: ys => .tup [x, y] :: pairD xs ys
  | _, _ => []
theorem pairD_len : ∀ (xs ys : List D), (pairD xs ys).length = min xs.length ys.length
  | [], ys => by simp
  | x :: xs, [] => by simp
  | x :: xs, y :: ys => by simp [pairD_len xs ys]
theorem pairD_get : ∀ {xs ys : List D} {i : Nat} {x y : D}, xs[i]? = some x → ys[i]? = some y → (pairD xs ys)[i]? = some (.tup [x, y])
  | [], ys, i, x, y, h, _ => by simp at h
  | x :: xs, [], i, _, _, _, h => by simp at h
  | x :: xs, y :: ys, 0, _, _, h1, h2 => by simp at h1 h2; subst h1 h2; rfl
  | x :: xs, y :: ys, i + 1, _, _, h1, h2 => by
    simp only [List.getElem?_cons_succ] at h1 h2
    simp only [pairD, List.getElem?_cons_succ]
    exact pairD_get h1 h2
@[simp] def zipD : List D → Option (List D)
  | [.lst xs, .lst ys] => some (pairD xs ys)
  | [.tup xs, .tup ys] => some (pairD xs ys)
  | _ => none
theorem itd_zipL {K : PySem.W.Frag} {F : Hp} {a b : Addr} {xs ys : List V} {ds es : List D} (hs : SqL K F a xs) (ha : RpA K F xs ds) (ht : SqL K F b ys) (hb : RpA K F ys es) : ItD K (Itz K a b) F (pairD ds es) := by
  refine ⟨fun F' H' i e e' hi => ?_, fun F' H' i e e' hi => ?_, fun B O ρ σ F' H' i x H'' e r y hi => ?_⟩
  · rw [pairD_len] at hi
    have h1 : i < xs.length := by rw [ha.length]; omega
    have h2 : i < ys.length := by rw [hb.length]; omega
    exact ⟨xs, ys, xs[i], ys[i], Evl.ex_l (e.trans e') hs, Evl.ex_l (e.trans e') ht, List.getElem?_eq_getElem h1, List.getElem?_eq_getElem h2⟩
  · rw [pairD_len] at hi
    have h1 := ha.length
    have h2 := hb.length
    exact ⟨xs, ys, Evl.ex_l (e.trans e') hs, Evl.ex_l (e.trans e') ht, by omega⟩
  · obtain ⟨T, u, v, rfl, hT, rfl, y1, y2⟩ := y
    obtain ⟨d, h1, h2⟩ := ha.get (y1 xs (Evl.ex_l (e.trans r.sub) hs))
    obtain ⟨d', h3, h4⟩ := hb.get (y2 ys (Evl.ex_l (e.trans r.sub) ht))
    obtain ⟨ex, r'⟩ := r.alloc (o := .tup [u, v]) hT
    exact ⟨_, _, pairD_get h1 h3, ex, r', .tup (SqT.of upd_same) (.cons (h2.up (e.trans ex)) (.cons (h4.up (e.trans ex)) .nil))⟩
theorem itd_zipT {K : PySem.W.Frag} {F : Hp} {a b : Addr} {xs ys : List V} {ds es : List D} (hs : SqT K F a xs) (ha : RpA K F xs ds) (ht : SqT K F b ys) (hb : RpA K F ys es) : ItD K (ItzT K a b) F (pairD ds es) := by
  refine ⟨fun F' H' i e e' hi => ?_, fun F' H' i e e' hi => ?_, fun B O ρ σ F' H' i x H'' e r y hi => ?_⟩
  · rw [pairD_len] at hi
    have h1 : i < xs.length := by rw [ha.length]; omega
    have h2 : i < ys.length := by rw [hb.length]; omega
    exact ⟨xs, ys, xs[i], ys[i], Evl.ex_t (e.trans e') hs, Evl.ex_t (e.trans e') ht, List.getElem?_eq_getElem h1, List.getElem?_eq_getElem h2⟩
  · rw [pairD_len] at hi
    have h1 := ha.length
    have h2 := hb.length
    exact ⟨xs, ys, Evl.ex_t (e.trans e') hs, Evl.ex_t (e.trans e') ht, by omega⟩
  · obtain ⟨T, u, v, rfl, hT, rfl, y1, y2⟩ := y
    obtain ⟨d, h1, h2⟩ := ha.get (y1 xs (Evl.ex_t (e.trans r.sub) hs))
    obtain ⟨d', h3, h4⟩ := hb.get (y2 ys (Evl.ex_t (e.trans r.sub) ht))
    obtain ⟨ex, r'⟩ := r.alloc (o := .tup [u, v]) hT
    exact ⟨_, _, pairD_get h1 h3, ex, r', .tup (SqT.of upd_same) (.cons (h2.up (e.trans ex)) (.cons (h4.up (e.trans ex)) .nil))⟩
section
variable {X : Cx} {W : WX} {O : List Nat} {fa fb : Env → R D} {fr : Env → R (List D)}
theorem di_zip {elts : List Expr} {kk : Nat} {tpos : Pos} {e e2 : Expr} {p pos : Pos} (hm : X.mg "zip" = none) (ha : DA X W O [e, e2] fr) (hg : Gl X "zip" := by rfl)
    (hs : starEach [e, e2] X.env = (false, eval e X.env) :: starEach [e2] X.env := by rfl) (hpl : (backTo pos (starEach [e2] X.env)).any (·.1) = false := by rfl) :
    DI X W O (.Tuple elts kk tpos) (.Call (.Name "zip" p) [e, e2] [] pos) (fL zipD fr) := by
  refine ⟨⟨fun pins s σ H Q I p => (pi_zipA hg hm ha.pa hs hpl).run pins s σ H Q I ?_⟩⟩
  obtain ⟨B, ρ, F, rp, p⟩ := p
  refine ⟨B, ρ, F, rp, p.bind.imp fun ds ρ1 F1 H1 hq0 e1 rp1 p1 xs hxs => ?_⟩
  obtain ⟨z, hz, q⟩ := liftB p1
  unfold zipD at hz
  split at hz
  · cases hz
    cases hxs with
    | cons h1 h2 =>
      cases h2 with
      | cons h2 h3 =>
        cases h3
        cases h1 with
        | lst s1 s2 =>
          cases h2 with
          | lst t1 t2 => exact ⟨_, _, _, _, rfl, .inl ⟨SqL.of (rp1.sub _ _ s1), SqL.of (rp1.sub _ _ t1), q F1 H1 (Ex.refl F1) rp1 _ (itd_zipL (SqL.of s1) s2 (SqL.of t1) t2)⟩⟩
  · cases hz
    cases hxs with
    | cons h1 h2 =>
      cases h2 with
      | cons h2 h3 =>
        cases h3
        cases h1 with
        | tup s1 s2 =>
          cases h2 with
          | tup t1 t2 => exact ⟨_, _, _, _, rfl, .inr ⟨Evl.ex_t rp1.sub s1, Evl.ex_t rp1.sub t1, q F1 H1 (Ex.refl F1) rp1 _ (itd_zipT s1 s2 t1 t2)⟩⟩
  · cases hz
end
end DL


namespace DL
open PySem PySem.Spec PyProof.Rows L2
open Evl (Ex)
/-! ### items with their places: over a tuple, too -/
set_option maxHeartbeats 1000000 in
theorem meets_enum1 {v : Value} {o : Obj} {H : Heap → Prop} (B : Begins v o H) :
    Meets (Builtin.«enumerate.__new__» ⟨[.type "enumerate", v], []⟩) (fun _ R s => H s.heap ∧
      R (.ok (.ret (.ref (s.heap.push o).objs.size))) { s with heap := (s.heap.push o).push { cls := .type "enumerate", data := .fields #[.none, .bool false, .ref s.heap.objs.size, rawInt 0, .none, .none] } }) :=
  .of_wp fun prog w A R s h => by
    obtain ⟨hp, g, d, tk, os⟩ := s; obtain ⟨h1, h⟩ := h
    have hsub := sub_enumerate
    have q1 : ∀ {A' : Around} {E : Value → Shared → Prop} {Q : Value → Shared → Prop}, Q (.ref hp.objs.size) ⟨hp.push o, g, d, tk, os⟩ → wpAny (model prog w) A' (pyIter v) Q E ⟨hp, g, d, tk, os⟩ :=
      fun q => B.iter prog w _ _ ⟨hp, g, d, tk, os⟩ _ h1 q
    wp_walk using q1
    refine wpAny_stack_any fun st => wpAny_pure ?_
    split
    · rename_i c _ _ _ _ _
      cases (c == Value.type "enumerate")
      · wp_walk using q1
        exact ⟨_, rfl, h⟩
      · wp_walk using q1
        exact ⟨_, rfl, h⟩
    · wp_walk using q1
      exact ⟨_, rfl, h⟩
theorem enum_begins1 {prog : Program} {w : World} {A : Around} {E : Value → Shared → Prop} {s : Shared} {v : Value} {o : Obj} {H : Heap → Prop} {Q : Value → Shared → Prop} (B : Begins v o H) (h1 : H s.heap)
    (h : ∀ h', IsEnum h' (s.heap.objs.size + 1) s.heap.objs.size 0 .none → h'.get? s.heap.objs.size = some o → h'.objs.size = s.heap.objs.size + 2 →
      (∀ b o, s.heap.get? b = some o → h'.get? b = some o) → Q (.ref (s.heap.objs.size + 1)) { s with heap := h' }) :
    wpAny (model prog w) A (call (.type "enumerate") [v]) Q E s := by
  refine callType_new F.called_enumerate (by decide) (F.typeCall_enumerate_1 _) (F.newCall_enumerate_1 _) (fun obj => F.args_object_init_2 obj _) F.entry_enumerate_new
    (meets_enum1 B) ⟨h1, ?_⟩
  have hz : (s.heap.push o).objs.size = s.heap.objs.size + 1 := Heap.size_push ..
  show _ ∧ _
  rw [hz]
  have he : IsEnum ((s.heap.push o).push { cls := .type "enumerate", data := .fields #[.none, .bool false, .ref s.heap.objs.size, rawInt 0, .none, .none] }) (s.heap.objs.size + 1) s.heap.objs.size 0 .none := by
    have := Heap.get?_push_size (s.heap.push o) (o := { cls := .type "enumerate", data := .fields #[.none, .bool false, .ref s.heap.objs.size, rawInt 0, .none, .none] }) rfl
    rw [hz] at this; exact this
  refine ⟨⟨_, he, rfl⟩, h _ he (Heap.get?_push_of_some _ (Heap.get?_push_size _ B.free)) (by rw [Heap.size_push, hz]) fun b o x => Heap.get?_push_of_some _ (Heap.get?_push_of_some _ x)⟩
/-- the tuple at a, each item in a new pair -/
def IteT (K : PySem.W.Frag) (a : Addr) : It :=
  ⟨fun i H => ∃ (xs : List V) (x : V), SqT K H a xs ∧ xs[i]? = some x, fun i H v H' => ∃ T x, v = .ref T ∧ H T = none ∧ H' = upd H T (.tup [.int (i : Nat), x]) ∧ ∀ xs, SqT K H a xs → xs[i]? = some x, fun i H => ∃ xs : List V, SqT K H a xs ∧ xs.length ≤ i⟩
theorem turn_enumT {P : Program} {w : World} {K : PySem.W.Frag} {elts : List Expr} {kk : Nat} {tpos : Pos} (a e it : Addr) :
    Turn P w K (.Tuple elts kk tpos) (IteT K a) [e, it] e (fun i h => (∃ old, IsEnum h e it ((i : Nat) : Int) old) ∧ h.IsTupleIter it a i ∧ e ≠ it) where
  mem := by simp
  obj := fun i h st b hb => by
    obtain ⟨⟨old, he⟩, ⟨o, ho, hc, hd⟩, _⟩ := st
    have e' : b = e ∨ b = it := by simpa using hb
    rcases e' with z | z
    · rw [z]; exact ⟨_, he, fun v q => nomatch q⟩
    · rw [z]; exact ⟨o, ho, fun v q => by rw [hd] at q; cases q⟩
  keep := fun i h h' st k => let ⟨⟨old, he⟩, hi, hne⟩ := st; ⟨⟨old, k e (by simp) _ he⟩, hi.at fun o q => k it (by simp) o q, hne⟩
  item := by
    intro X hP hw hK hc i pins s σ H E I hf st hg
    subst hP hw hK
    obtain ⟨⟨old, he⟩, hit, hne⟩ := st
    obtain ⟨xs, x, hq, hx⟩ := hg
    obtain ⟨its, rv, p, hz⟩ := I.tuple hq
    obtain ⟨u, hu, ru⟩ := rv.get hx
    have hel : e < s.heap.objs.size := Heap.lt_size he
    have hil : it < s.heap.objs.size := by obtain ⟨_, q, _⟩ := hit; exact Heap.lt_size q
    have p' : s.heap.IsTuple a its.toArray := p
    have hai : a ≠ it := fun z => by
      obtain ⟨o, q1, q2, q3⟩ := hit
      obtain ⟨o', r1, r2, _⟩ := p'
      rw [z, q1] at r1
      cases r1
      rw [q2] at r2
      exact absurd r2 (by decide)
    have hea : e ∉ [it, a] := fun z => by
      rcases List.mem_cons.mp z with z | z
      · exact hne z
      · have z := List.mem_singleton.mp z
        obtain ⟨o', r1, r2, _⟩ := p'
        rw [← z] at r1
        rw [show s.heap.get? e = some _ from he] at r1
        cases r1
        exact absurd (show Value.type "enumerate" = Value.type "tuple" from r2) (by decide)
    have hlt : i < its.toArray.size := by
      have := (List.getElem?_eq_some_iff.mp hu).1
      simpa using this
    refine wpAny_pyNext_enum_itemC (Draws.tuple (A := X.A.in1) ?hh it a hai its.toArray) he ⟨hit, p'⟩ hlt hne hea fun x' h' tk hP ho hst' hT hsz hk => ?_
    case hh => exact I.ok.hd hc
    have hP' : x' = u := by
      have : its.toArray[i]? = some u := by simpa using hu
      rw [this] at hP
      exact (Option.some.inj hP).symm
    subst hP'
    refine ⟨_, rfl, wpAny_letOwnedTupleGo_enum (s := { s with heap := h', toks := tk + 1 }) ho fun h'' he' sb => ?_⟩
    have hT2 : h''.get? s.heap.objs.size = some { cls := .type "tuple", data := .seq #[.int i tk, x'] } := (sb.2 _ (Nat.ne_of_gt hel)).trans hT
    have new : ObjOk X.prog X.w (upd H s.heap.objs.size (.tup [.int (i : Nat), x])) h'' s.heap.objs.size (.tup [.int (i : Nat), x]) :=
      ⟨by show 2 ≤ sizeLine; decide, [.int i tk, x'], .cons ⟨_, rfl⟩ (.cons ru .nil), ⟨_, hT2, rfl, _, rfl⟩⟩
    have I1 : Inv X pins σ (upd H s.heap.objs.size (.tup [.int (i : Nat), x])) { s with heap := h'', toks := tk + 1 } :=
      I.turnedNew (ch := [e, it]) (fun b ob hb q => (sb.2 b (fun z => hb (by simp [z]))).trans (hk b ob (fun z => hb (by simp [z])) (fun z => hb (by simp [z])) q)) hf (Nat.le_refl _) new
    obtain ⟨hit', _⟩ := hst'
    refine ⟨.ref s.heap.objs.size, _, I1, rfl, ⟨_, x, rfl, I.hok.fresh (Nat.le_refl _), rfl, fun ys hy => by rw [I.tuple_inj hy hq]; exact hx⟩, ⟨⟨x', ?_⟩, hit'.at fun o q => (sb.2 it (Ne.symm hne)).trans q, hne⟩, fun b hb => ?_⟩
    · have e1 : ((i + 1 : Nat) : Int) = (i : Int) + 1 := by omega
      rw [e1]; exact he'
    · have hb' : b < s.heap.objs.size := by
        have e' : b = e ∨ b = it := by simpa using hb
        rcases e' with z | z
        · rw [z]; exact hel
        · rw [z]; exact hil
      rw [upd_ne (Nat.ne_of_lt hb')]
      exact (hf b hb).1
  done := by
    intro X hP hw hK hc i pins s σ H E I hf st hg
    subst hP hw hK
    obtain ⟨⟨old, he⟩, hit, hne⟩ := st
    obtain ⟨xs, hq, hx⟩ := hg
    obtain ⟨its, rv, p, hz⟩ := I.tuple hq
    obtain ⟨f0, f1, f2, f3, f4, f5⟩ := hf it (by simp)
    have hl := rv.length
    have p' : s.heap.IsTuple a its.toArray := p
    have hai : a ≠ it := fun z => by
      obtain ⟨o, q1, q2, q3⟩ := hit
      obtain ⟨o', r1, r2, _⟩ := p'
      rw [z, q1] at r1
      cases r1
      rw [q2] at r2
      exact absurd r2 (by decide)
    have e0 : its.toArray[i]? = none := by simp; omega
    have D : Draws X.prog X.w X.A.in1 it [it, a] i (fun _ _ => False) (fun j h => j = i ∧ h.IsTupleIter it a j ∧ h.IsTuple a its.toArray) :=
      { live := fun _ _ st => let ⟨o, ho, _⟩ := st.2.1; ⟨o, ho⟩,
        frame := fun _ _ _ st hk => ⟨st.1, st.2.1.at fun o e => hk it (by simp) o e, st.2.2.at fun o e => hk a (by simp) o e⟩,
        item := fun j s Q E hj st hQ => absurd st.1 (Nat.ne_of_lt hj),
        done := fun s Q E st hE => wpAny_nextOf_tuple_end (I.ok.hd hc) st.2.1 st.2.2 e0 hE }
    exact wpAny_pyNext_enum_endD D he ⟨rfl, hit, p'⟩ fun h' eb => ⟨rfl, I.turned (t' := s.toks) (fun b o hb q => eb b o hb q) f0 f1 f3 f4 f5⟩
  self := fun A i s Q E st h => let ⟨⟨_, he⟩, _⟩ := st; wpAny_pyIter_enum he h
def iEnumA (K : PySem.W.Frag) (ta : TA) : TI := fun σ H R => ta σ H fun vs H1 => ∃ a xs, vs = [.ref a] ∧ ((SqL K H1 a xs ∧ R (Ite K a) H1) ∨ (SqT K H1 a xs ∧ R (IteT K a) H1))
theorem pi_enumA {X : Cx} {e : Expr} {ta : TA} {p pos tpos : Pos} {elts : List Expr} {kk : Nat} (hg : Gl X "enumerate") (hm : X.mg "enumerate" = none) (ha : PA X [e] ta) (hs : starEach [e] X.env = [(false, eval e X.env)] := by rfl) :
    PI X (.Tuple elts kk tpos) (.Call (.Name "enumerate" p) [e] [] pos) (iEnumA X.K ta) := by
  refine ⟨fun pins s σ H R I h => ?_⟩
  refine Call_ (ld_blt I hg hm boot_enumerate (PyProof.Rows.callWith_type1 (thn (ha.run pos pins s σ H _ I h) fun us s1 ⟨vs, H1, I1, r1, q1⟩ => ?_) hs rfl))
  obtain ⟨a, xs, ex, hq⟩ := q1
  subst ex
  cases r1 with
  | cons r rr =>
    cases rr
    cases r
    have fpk : ∀ b ∈ [s1.heap.objs.size + 1, s1.heap.objs.size], FpOk X pins H1 b := fun b hb => by
      have e' : b = s1.heap.objs.size + 1 ∨ b = s1.heap.objs.size := by simpa using hb
      have hle : s1.heap.objs.size ≤ b := by
        rcases e' with z | z
        · rw [z]; exact Nat.le_add_right _ _
        · rw [z]; exact Nat.le_refl _
      exact I1.fpOk hle (I1.hok.fresh hle)
    rcases hq with ⟨hq, q⟩ | ⟨hq, q⟩
    · obtain ⟨its, rv, p', hz⟩ := I1.list hq
      refine call_enumerate_list p'.isList fun h' he hit hsz hk => wpAny_pyIter_enum he ?_
      have I2 : Inv X pins σ H1 { s1 with heap := h' } := I1.kept (t' := s1.toks) hk
      exact ⟨s1.heap.objs.size + 1, [s1.heap.objs.size + 1, s1.heap.objs.size], _, _, H1, rfl, I2, turn_enum a (s1.heap.objs.size + 1) s1.heap.objs.size, ⟨⟨.none, he⟩, hit, Nat.succ_ne_self _⟩, fpk, q⟩
    · obtain ⟨its, rv, p', hz⟩ := I1.tuple hq
      refine enum_begins1 (begins_tuple a its.toArray) p' fun h' he hit hsz hk => wpAny_pyIter_enum he ?_
      have I2 : Inv X pins σ H1 { s1 with heap := h' } := I1.kept (t' := s1.toks) hk
      exact ⟨s1.heap.objs.size + 1, [s1.heap.objs.size + 1, s1.heap.objs.size], _, _, H1, rfl, I2, turn_enumT a (s1.heap.objs.size + 1) s1.heap.objs.size, ⟨⟨.none, he⟩, ⟨_, hit, rfl, rfl⟩, Nat.succ_ne_self _⟩, fpk, q⟩
@[simp] def placeD : Nat → List D → List D
  | _, [] => []
  | i, x :: xs => .tup [.int i, x] :: placeD (i + 1) xs
theorem placeD_len : ∀ (i : Nat) (xs : List D), (placeD i xs).length = xs.length
  | _, [] => rfl
  | i, x :: xs => congrArg Nat.succ (placeD_len (i + 1) xs)
theorem placeD_get : ∀ {xs : List D} {i k : Nat} {x : D}, xs[i]? = some x → (placeD k xs)[i]? = some (.tup [.int ((k + i : Nat) : Int), x])
  | [], i, k, x, h => by simp at h
  | x :: xs, 0, k, _, h => by simp at h; subst h; rfl
  | x :: xs, i + 1, k, _, h => by
    simp only [List.getElem?_cons_succ] at h
    simp only [placeD, List.getElem?_cons_succ]
    rw [placeD_get h]
    congr 4
    omega
@[simp] def enumD : List D → Option (List D)
  | [.lst xs] => some (placeD 0 xs)
  | [.tup xs] => some (placeD 0 xs)
  | _ => none
theorem itd_enumL {K : PySem.W.Frag} {F : Hp} {a : Addr} {xs : List V} {ds : List D} (hs : SqL K F a xs) (ha : RpA K F xs ds) : ItD K (Ite K a) F (placeD 0 ds) := by
  refine ⟨fun F' H' i e e' hi => ?_, fun F' H' i e e' hi => ?_, fun B O ρ σ F' H' i x H'' e r y hi => ?_⟩
  · rw [placeD_len] at hi
    have h1 : i < xs.length := by rw [ha.length]; omega
    exact ⟨xs, xs[i], Evl.ex_l (e.trans e') hs, List.getElem?_eq_getElem h1⟩
  · rw [placeD_len] at hi
    exact ⟨xs, Evl.ex_l (e.trans e') hs, by rw [ha.length]; exact hi⟩
  · obtain ⟨T, u, rfl, hT, rfl, y1⟩ := y
    obtain ⟨d, h1, h2⟩ := ha.get (y1 xs (Evl.ex_l (e.trans r.sub) hs))
    obtain ⟨ex, r'⟩ := r.alloc (o := .tup [.int (i : Nat), u]) hT
    have h3 := placeD_get (k := 0) h1
    rw [Nat.zero_add] at h3
    exact ⟨_, _, h3, ex, r', .tup (SqT.of upd_same) (.cons (.int _) (.cons (h2.up (e.trans ex)) .nil))⟩
theorem itd_enumT {K : PySem.W.Frag} {F : Hp} {a : Addr} {xs : List V} {ds : List D} (hs : SqT K F a xs) (ha : RpA K F xs ds) : ItD K (IteT K a) F (placeD 0 ds) := by
  refine ⟨fun F' H' i e e' hi => ?_, fun F' H' i e e' hi => ?_, fun B O ρ σ F' H' i x H'' e r y hi => ?_⟩
  · rw [placeD_len] at hi
    have h1 : i < xs.length := by rw [ha.length]; omega
    exact ⟨xs, xs[i], Evl.ex_t (e.trans e') hs, List.getElem?_eq_getElem h1⟩
  · rw [placeD_len] at hi
    exact ⟨xs, Evl.ex_t (e.trans e') hs, by rw [ha.length]; exact hi⟩
  · obtain ⟨T, u, rfl, hT, rfl, y1⟩ := y
    obtain ⟨d, h1, h2⟩ := ha.get (y1 xs (Evl.ex_t (e.trans r.sub) hs))
    obtain ⟨ex, r'⟩ := r.alloc (o := .tup [.int (i : Nat), u]) hT
    have h3 := placeD_get (k := 0) h1
    rw [Nat.zero_add] at h3
    exact ⟨_, _, h3, ex, r', .tup (SqT.of upd_same) (.cons (.int _) (.cons (h2.up (e.trans ex)) .nil))⟩
section
variable {X : Cx} {W : WX} {O : List Nat} {fr : Env → R (List D)}
theorem di_enum {elts : List Expr} {kk : Nat} {tpos : Pos} {e : Expr} {p pos : Pos} (hm : X.mg "enumerate" = none) (ha : DA X W O [e] fr) (hg : Gl X "enumerate" := by rfl) (hs : starEach [e] X.env = [(false, eval e X.env)] := by rfl) :
    DI X W O (.Tuple elts kk tpos) (.Call (.Name "enumerate" p) [e] [] pos) (fL enumD fr) := by
  refine ⟨⟨fun pins s σ H Q I p => (pi_enumA hg hm ha.pa hs).run pins s σ H Q I ?_⟩⟩
  obtain ⟨B, ρ, F, rp, p⟩ := p
  refine ⟨B, ρ, F, rp, p.bind.imp fun ds ρ1 F1 H1 hq0 e1 rp1 p1 xs hxs => ?_⟩
  obtain ⟨z, hz, q⟩ := liftB p1
  unfold enumD at hz
  split at hz
  · cases hz
    cases hxs with
    | cons h1 h3 =>
      cases h3
      cases h1 with
      | lst s1 s2 => exact ⟨_, _, rfl, .inl ⟨SqL.of (rp1.sub _ _ s1), q F1 H1 (Ex.refl F1) rp1 _ (itd_enumL (SqL.of s1) s2)⟩⟩
  · cases hz
    cases hxs with
    | cons h1 h3 =>
      cases h3
      cases h1 with
      | tup s1 s2 => exact ⟨_, _, rfl, .inr ⟨Evl.ex_t rp1.sub s1, q F1 H1 (Ex.refl F1) rp1 _ (itd_enumT s1 s2)⟩⟩
  · cases hz
end
end DL


namespace DL
open PySem PySem.Spec PyProof.Rows L2
open Evl (Ex)
section
variable {X : Cx}
/-! ### x in a tuple -/
def rInT (K : PySem.W.Frag) : R2 := fun x y H Q => ∃ d ds, Dp K H x d ∧ Dp K H y (.tuple ds) ∧ SeqAt.shaped d = true ∧ SeqAt.shaped (.tuple ds) = true ∧ Q (.bl (ds.any fun z => PyData.eqv z d)) H
def rNotInT (K : PySem.W.Frag) : R2 := fun x y H Q => ∃ d ds, Dp K H x d ∧ Dp K H y (.tuple ds) ∧ SeqAt.shaped d = true ∧ SeqAt.shaped (.tuple ds) = true ∧ Q (.bl (!ds.any fun z => PyData.eqv z d)) H
theorem op_inT (hu : X.A.units + 65 < cLine) : OpR X (compareOp .In) (rInT X.K) := by
  intro pins s σ H x y v u Q I rx ry h
  obtain ⟨d, ds, hd, he, sd, se, q⟩ := h
  obtain ⟨as, r1⟩ := Dp.reads I d x v hd rx
  obtain ⟨bs, r2⟩ := Dp.reads I (.tuple ds) y u he ry
  exact SeqAt.in_tuple_reads r2 r1 (SeqAt.canLay_of_shaped se) (SeqAt.canLay_of_shaped sd) (room_in_shaped sd hu) ⟨.bl _, H, I, rfl, q⟩
theorem op_notInT (hu : X.A.units + 65 < cLine) : OpR X (compareOp .NotIn) (rNotInT X.K) := by
  intro pins s σ H x y v u Q I rx ry h
  obtain ⟨d, ds, hd, he, sd, se, q⟩ := h
  obtain ⟨as, r1⟩ := Dp.reads I d x v hd rx
  obtain ⟨bs, r2⟩ := Dp.reads I (.tuple ds) y u he ry
  exact SeqAt.notIn_tuple_reads r2 r1 (SeqAt.canLay_of_shaped se) (SeqAt.canLay_of_shaped sd) (room_in_shaped sd hu) ⟨.bl _, H, I, rfl, q⟩
end
@[simp] def inBT : D → D → Option Bool
  | d, .tup ds => if okN 60 d && okNs 59 ds then some ((pyDs ds).any fun z => z.eqv (pyD d)) else none
  | _, _ => none
theorem inBT_dp {K : PySem.W.Frag} {F H : Hp} {x y : V} {d e : D} {b : Bool} (ex : Ex F H) (hx0 : Rp K F x d) (hy0 : Rp K F y e) (h : inBT d e = some b) : ∃ d' ds, Dp K H x d' ∧ Dp K H y (.tuple ds) ∧ PySem.SeqAt.shaped d' = true ∧ PySem.SeqAt.shaped (.tuple ds) = true ∧ (ds.any fun z => z.eqv d') = b := by
  have hx := hx0.up ex
  have hy := hy0.up ex
  unfold inBT at h
  split at h
  · next ds =>
    split at h
    · next q =>
      rw [Bool.and_eq_true] at q
      obtain ⟨a1, a2, _, _⟩ := okN_shaped _ _ q.1
      have q2 : okN 60 (.tup ds) = true := by simp only [okN]; exact q.2
      obtain ⟨b1, b2, _, _⟩ := okN_shaped _ _ q2
      have dy := Rp.dp _ _ _ q2 hy
      simp only [pyD] at dy b1 b2
      refine ⟨_, _, Rp.dp _ _ _ q.1 hx, dy, ?_, ?_, Option.some.inj h⟩
      · unfold PySem.SeqAt.shaped
        rw [a1, decide_eq_true (show (pyD d).depth ≤ 64 by omega)]; rfl
      · unfold PySem.SeqAt.shaped
        rw [b1, decide_eq_true (show (PyData.tuple (pyDs ds)).depth ≤ 64 by omega)]; rfl
    · cases h
  · cases h
/-- in a list or a tuple -/
@[simp] def inAB (d e : D) : Option Bool := match e with
  | .tup _ => inBT d e
  | _ => inB d e
@[simp] def inA (d e : D) : Option D := (inAB d e).map .bl
@[simp] def notInA (d e : D) : Option D := (inAB d e).map fun b => .bl (!b)
theorem s_inA {K : PySem.W.Frag} : OpS K (fun x y H Q => rInD K x y H Q ∨ rInT K x y H Q) inA := by
  intro O B ρ σ F H x y d e z Q rp hx hy hz k
  unfold inA at hz
  cases hb : inAB d e with
  | none => rw [hb] at hz; cases hz
  | some b =>
    rw [hb] at hz
    cases hz
    unfold inAB at hb
    split at hb
    · obtain ⟨d', e', h1, h2, h3, h4, h5⟩ := inBT_dp rp.sub hx hy hb
      refine .inr ⟨d', e', h1, h2, h3, h4, ?_⟩
      rw [h5]
      exact k _ F H (Ex.refl F) rp (.bl b)
    · obtain ⟨d', e', h1, h2, h3, h4, h5⟩ := inB_dp rp.sub hx hy hb
      refine .inl ⟨d', e', h1, h2, h3, h4, ?_⟩
      rw [h5]
      exact k _ F H (Ex.refl F) rp (.bl b)
theorem s_notInA {K : PySem.W.Frag} : OpS K (fun x y H Q => rNotInD K x y H Q ∨ rNotInT K x y H Q) notInA := by
  intro O B ρ σ F H x y d e z Q rp hx hy hz k
  unfold notInA at hz
  cases hb : inAB d e with
  | none => rw [hb] at hz; cases hz
  | some b =>
    rw [hb] at hz
    cases hz
    unfold inAB at hb
    split at hb
    · obtain ⟨d', e', h1, h2, h3, h4, h5⟩ := inBT_dp rp.sub hx hy hb
      refine .inr ⟨d', e', h1, h2, h3, h4, ?_⟩
      rw [h5]
      exact k _ F H (Ex.refl F) rp (.bl _)
    · obtain ⟨d', e', h1, h2, h3, h4, h5⟩ := inB_dp rp.sub hx hy hb
      refine .inl ⟨d', e', h1, h2, h3, h4, ?_⟩
      rw [h5]
      exact k _ F H (Ex.refl F) rp (.bl _)
theorem op_inAD {X : Cx} (hu : X.A.units + 65 < cLine) : OpR X (compareOp .In) (fun x y H Q => rInD X.K x y H Q ∨ rInT X.K x y H Q) := (op_inD hu).or (op_inT hu)
theorem op_notInAD {X : Cx} (hu : X.A.units + 65 < cLine) : OpR X (compareOp .NotIn) (fun x y H Q => rNotInD X.K x y H Q ∨ rNotInT X.K x y H Q) := (op_notInD hu).or (op_notInT hu)

/-! ### Booleans as numbers -/
@[simp] def bI (b : Bool) : Int := if b = true then 1 else 0
section
variable {prog : Program} {w : World} {A : Around} {E : Value → Shared → Prop} {s : Shared}
theorem bool_index : typeLookup (.type "bool") "__index__" = pure (some (.builtin "int.__index__")) := PySem.F.slot_bool_index.lookup
theorem getItem_tuple_bool {t : Addr} {items : Array Value} {b : Bool} {x : Value} {Q : Value → Shared → Prop} (ht : IsTup s.heap t items)
    (hj : seqIndex? (bI b) items.size = some (bI b).toNat) (hx : items[(bI b).toNat]? = some x) (h : Q x s) : wpAny (model prog w) A (getItem (.ref t) (.bool b)) Q E s := by
  unfold getItem
  try with_reducible refine wpAny_holding ?_
  first | refine wpAny_bind (wpAny_pure ?_) | skip
  refine wpAny_bind (wpAny_sequenceKey ht.typeIs (by decide) ?_)
  refine wpAny_bind (wpAny_callSpecial?_slot (name := Str.ofString "__getitem__") ht.typeIs slot_tuple_getitem
    (wpAny_call_entry slot_tuple_getitem ht.typeIs entry_tuple_getitem ?_ (args_tuple_getitem _ _)))
  show wpAny _ _ (Builtin.Tuple.tupleItemsOf (.ref t) >>= _) _ _ s
  refine wpAny_bind (tupleItemsOf_ ht ?_)
  refine wpAny_bind (wpAny_typeOf (PySem.typeIs_bool s b) ?_)
  rw [if_neg (by decide)]
  refine wpAny_bind (wpAny_specialOf (T := "bool") (PySem.typeIs_bool s b) bool_index ?_)
  rw [if_neg (by simp)]
  refine wpAny_bind (wpAny_of_eq (a := bI b) (by cases b <;> rfl) ?_)
  rw [if_neg (by cases b <;> simp)]
  simp only [hj, Option.bind_some, hx]
  exact wpAny_pure ⟨_, rfl, wpAny_pure h⟩
end
def rIxB (K : PySem.W.Frag) : R2 := fun x y H Q => ∃ p xs b v, x = .ref p ∧ y = .bl b ∧ SqT K H p xs ∧ atI xs (bI b) = some v ∧ Q v H
theorem ix_bool {X : Cx} : IxR X (rIxB X.K) := by
  intro value slice pins s σ H x y v u Q I rx ry h hs
  obtain ⟨p, xs, b, z, rfl, rfl, hq, he, q⟩ := h
  cases rx
  cases ry
  obtain ⟨its, r, pl, hz⟩ := I.tuple hq
  obtain ⟨j, h1, h2, h3, h4, h5⟩ := atI_get he
  obtain ⟨w, ew, rw'⟩ := r.get h2
  have hl := r.length
  have e : j = (bI b).toNat := by
    have := h1
    unfold seqIndex? at this
    cases b <;> simp at this <;> simp <;> omega
  subst e
  have fin : EP X pins σ Q w s := ⟨z, H, I, rw', q⟩
  exact subscriptTail_builtinR (x := w) pl.typeIs slot_tuple_getitem.lookup
    (getItem_tuple_bool (Q := fun r s' => r = w ∧ EP X pins σ Q r s') pl (by rw [List.size_toArray, ← hl]; exact h1) (by simpa using ew) ⟨rfl, fin⟩) hs
/-- x[i] for all kinds -/
@[simp] def ixA (d e : D) : Option D := match e with
  | .bl b => match d with
    | .tup xs => atI xs (bI b)
    | _ => none
  | _ => ixD d e
theorem s_ixA {K : PySem.W.Frag} : OpS K (fun x y H Q => rIx K x y H Q ∨ rIxB K x y H Q) ixA := by
  intro O B ρ σ F H x y d e z Q rp hx hy hz k
  unfold ixA at hz
  split at hz
  · next b =>
    split at hz
    · cases hx with
      | tup h1 h2 =>
        cases hy
        obtain ⟨v, g1, g2⟩ := h2.at hz
        exact .inr ⟨_, _, b, _, rfl, rfl, Evl.ex_t rp.sub h1, g1, k _ F H (Ex.refl F) rp g2⟩
    · cases hz
  · exact .inl (s_ix O B ρ σ F H x y d e z Q rp hx hy hz k)
theorem ix_all {X : Cx} : IxR X (fun x y H Q => rIx X.K x y H Q ∨ rIxB X.K x y H Q) := ix_seq.or ix_bool
/-- + and * with Booleans -/
theorem op_mul_ib {X : Cx} : OpR X (binaryOp .Mult) (fun x y H Q => ∃ i k, x = .int i ∧ y = .bl k ∧ Q (.int (i * bI k)) H) := by
  intro pins s σ H x y v u Q I rx ry h
  obtain ⟨i, k, rfl, rfl, q⟩ := h
  obtain ⟨t, rfl⟩ := rx
  cases ry
  exact PySem.IntBool.mul_int_bool ⟨.int (i * bI k), H, I.tok _, ⟨_, rfl⟩, q⟩
@[simp] def addA (d e : D) : Option D := match d, e with
  | .int i, .bl k => some (.int (i + bI k))
  | _, _ => addD d e
@[simp] def mulA (d e : D) : Option D := match d, e with
  | .int i, .bl k => some (.int (i * bI k))
  | _, _ => mulD d e
theorem s_addA {K : PySem.W.Frag} : OpS K (fun x y H Q => rAdd K x y H Q ∨ (∃ i k, x = .int i ∧ y = .bl k ∧ Q (.int (i + b2i k)) H)) addA := by
  intro O B ρ σ F H x y d e z Q rp hx hy hz k
  unfold addA at hz
  split at hz
  · next i b =>
    cases hz
    cases hx
    cases hy
    refine .inr ⟨_, _, rfl, rfl, ?_⟩
    have e : b2i b = bI b := by cases b <;> rfl
    rw [e]
    exact k _ F H (Ex.refl F) rp (.int _)
  · exact .inl (s_add O B ρ σ F H x y d e z Q rp hx hy hz k)
theorem op_addA {X : Cx} : OpR X (binaryOp Operator.Add) (fun x y H Q => rAdd X.K x y H Q ∨ (∃ i k, x = .int i ∧ y = .bl k ∧ Q (.int (i + b2i k)) H)) := op_addD.or op_add_ib
theorem s_mulA {K : PySem.W.Frag} : OpS K (fun x y H Q => (rI CMulW (fun i j => V.int (i * j)) x y H Q ∨ rRep x y H Q) ∨ (∃ i k, x = .int i ∧ y = .bl k ∧ Q (.int (i * bI k)) H)) mulA := by
  intro O B ρ σ F H x y d e z Q rp hx hy hz k
  unfold mulA at hz
  split at hz
  · next i b =>
    cases hz
    cases hx
    cases hy
    exact .inr ⟨_, _, rfl, rfl, k _ F H (Ex.refl F) rp (.int _)⟩
  · exact .inl (s_mul O B ρ σ F H x y d e z Q rp hx hy hz k)
theorem op_mulA {X : Cx} : OpR X (binaryOp Operator.Mult) (fun x y H Q => (rI CMulW (fun i j => V.int (i * j)) x y H Q ∨ rRep x y H Q) ∨ (∃ i k, x = .int i ∧ y = .bl k ∧ Q (.int (i * bI k)) H)) := op_mulD.or op_mul_ib
end DL


namespace DL
open PySem PySem.Spec PyProof.Rows L2
open Evl (Ex)
section
variable {X : Cx} {W : WX} {own : Bool} {O O' Ol : List Nat} {pos : Pos} {fa fb : Env → R D} {fr : Env → R (List D)}
/-! ### a list and a list: a new one -/
@[simp] def catD : D → D → Option D
  | .lst xs, .lst ys => if xs.length + ys.length ≤ 100000 then some (.lst (xs ++ ys)) else none
  | _, _ => none
theorem do_cat {a b : Expr} (ha : DE X W O a fa) (hb : DE X W O b fb) : DO X W O (.BinOp a .Add b pos) (fOp catD fa fb) := by
  refine ⟨pe_imp (pe_op op_cat ha.pe hb.pe) fun σ H Q p => ?_⟩
  obtain ⟨B, ρ, F, rp, p⟩ := p
  refine ⟨B, ρ, F, rp, p.bind.imp fun d ρ1 F1 H1 _ e1 rp1 p1 x hx => ?_⟩
  refine ⟨B, ρ1, F1, rp1, p1.bind.imp fun e ρ2 F2 H2 _ e2 rp2 p2 y hy => ?_⟩
  obtain ⟨z, hz, q⟩ := liftP p2
  cases hx with
  | lst h1 h2 =>
    cases hy with
    | lst g1 g2 =>
      simp only [catD] at hz
      split at hz
      · next hl =>
        cases hz
        refine ⟨_, _, _, _, rfl, rfl, rp2.sub _ _ (e2 _ _ h1), rp2.sub _ _ g1, Evl.sz_of (by rw [h2.length, g2.length]; exact hl), fun p hp => ?_⟩
        obtain ⟨r', m2, m4, m6, m5⟩ := rp2.laid (o := .lst _) hp
        exact q _ _ (Ex.refl F2) r' _ _ ⟨upd_same, m2, .lst ((h2.up e2).append g2), m4, m6, m5⟩
      · cases hz
    | _ => cases hz
  | _ => cases hz
theorem do_if {ta : Env → R Bool} {c a b : Expr} (hc : DT X W O c ta) (ha : DO X W O a fa) (hb : DO X W O b fb) : DO X W O (.IfExp c a b pos) (fIf ta fa fb) := by
  refine ⟨pe_imp (pe_ifExp hc.pt ha.pe hb.pe) fun σ H Q p => ?_⟩
  obtain ⟨B, ρ, F, rp, p⟩ := p
  refine ⟨B, ρ, F, rp, p.bind.imp fun c ρ1 F1 H1 _ e1 rp1 p1 => ?_⟩
  cases c with
  | true => exact iteT ⟨B, ρ1, F1, rp1, p1⟩
  | false => exact iteF ⟨B, ρ1, F1, rp1, p1⟩
/-- name.extend(e) -/
@[simp] def sExt (i : Nat) (fa : Env → R D) (ρ : Env) : Out := match atOwn ρ i with
  | none => .bad
  | some _ => rOut (fa ρ) fun d ρ1 => match d, atOwn ρ1 i with
    | .lst es, some ds => if ds.length + es.length ≤ 100000 then .nx (ρ1.set i (some (.lst (ds ++ es)))) else .bad
    | _, _ => .bad
theorem ds_ext (i : Nat) {x : Str} {e : Expr} {p1 p2 p3 : Pos} (he : DE X W O e fa) (ho : decide (i ∈ O) = true := by rfl) (hN : X.N[i]? = some x := by rfl) (hv : Vis X.env.scope x := by first | exact Or.inl rfl | exact Or.inr (Or.inl rfl) | exact Or.inr (Or.inr rfl)) (hd : (x == ("__debug__" : Str)) = false := by decide)
    (hcd : (x == ("__classdict__" : Str)) = false := by decide)
    (hbase : attributeBase (.Name x p1) ("extend" : Str) X.env (eval (.Name x p1) X.env) = eval (.Name x p1) X.env := by rfl)
    (hfew : ((backTo p3 (starEach [e] X.env)).all (fun x => !x.1) && (backToKw p3 (keywordEach [] X.env)).all (fun x => x.1.isSome)
      && decide (([e] : List Expr).length + ([] : List Keyword).length + (if ([] : List Keyword).isEmpty then 0 else 1) < 30)) = true := by rfl)
    (hline : (p2.endLine == p3.line) = true := by rfl) (hs : starEach [e] X.env = (false, eval e X.env) :: starEach [] X.env := by rfl) (hplain : (backTo p3 (starEach [] X.env)).any (·.1) = false := by rfl)
    (hsw : swapsWith (.Call (.Attribute (.Name x p1) ("extend" : Str) p2) [e] [] p3) none pos.line X.env = pure false := by rfl) :
    DS X W own Ol O (.Expr (.Call (.Attribute (.Name x p1) ("extend" : Str) p2) [e] [] p3) pos) O (sExt i fa) := by
  refine ⟨ps_imp (ps_expr (pe_bm PySem.F.plainAttrs_list PySem.F.slot_list_extend PySem.F.type_list_extend mt_extend (pe_var hN hv hd hcd) (pa_cons he.pe pa_nil hs) hbase hfew hline hs hplain) hsw) fun E σ H p => ?_⟩
  obtain ⟨B, ρ, F, rp, p⟩ := p
  have hi := of_decide_eq_true ho
  unfold sExt at p
  split at p
  · exact p.elim
  · next ds0 h0 =>
    obtain ⟨a, xs, g2, g3, g4⟩ := rp.ownL hi (atOwn_some h0)
    refine ⟨V.ref a, g2, .inl ⟨rfl, _, SqL.of g3⟩, B, ρ, F, rp, (SPost.val p).imp fun d ρ1 F1 H1 hq0 e1 rp1 p1 y hy => ?_⟩
    split at p1
    · next es ds h1 =>
      split at p1
      · next hl =>
        obtain ⟨a1, ys, k1, k2, k3⟩ := rp1.ownL hi (atOwn_some h1)
        rw [g2] at k1
        cases k1
        cases hy with
        | lst z1 z2 =>
          exact ⟨a, _, ys, _, rfl, rfl, k2, rp1.sub _ _ z1, Evl.sz_of (by rw [k3.length, z2.length]; exact hl), p1 σ F1 _ (Ex.refl F1) (rp1.change hi g2 (.lst (k3.append z2)))⟩
      · exact p1.elim
    · exact p1.elim
/-- name += e -/
@[simp] def sAug (i : Nat) (g : Int → Int → Int) (fa : Env → R D) (ρ : Env) : Out := match ρ[i]? with
  | some (some (.int v)) => rOut (fa ρ) fun d ρ1 => match d with
    | .int w => .nx (ρ1.set i (some (.int (g v w))))
    | _ => .bad
  | _ => .bad
theorem ds_aug (i : Nat) {x : Str} {e : Expr} {op : Operator} {g : Int → Int → Int} {pos' : Pos} (hN : X.N.Nodup) (hp : PIp X op (ipI g)) (he : DE X W O e fa) (ho : decide (i ∈ O) = false := by rfl) (hi : X.N[i]? = some x := by rfl) (hx : Loc X.env.scope x := by first | exact Or.inl rfl | exact Or.inr rfl)
    (hf : X.fn x = true ∨ X.env.scope.names.lookup x = some .local := by first | exact .inl rfl | exact .inr rfl | assumption) : DS X W own Ol O (.AugAssign (.Name x pos') op e pos) O (sAug i g fa) := by
  refine ⟨ps_imp (ps_aug hN hi hx he.pe hp hf) fun E σ H p => ?_⟩
  obtain ⟨B, ρ, F, rp, p⟩ := p
  unfold sAug at p
  split at p
  · next v hv =>
    obtain ⟨xv, h1, h2⟩ := rp.dat i _ hv (of_decide_eq_false ho)
    refine ⟨xv, h1, B, ρ, F, rp, (SPost.val p).imp fun d ρ1 F1 H1 _ e1 rp1 p1 y hy => ?_⟩
    cases d <;> first | exact p1.elim | skip
    cases hy
    cases h2
    exact ⟨_, _, rfl, rfl, p1 _ F1 H1 (Ex.refl F1) (rp1.store (of_decide_eq_false ho) (.int _))⟩
  · exact p.elim

/-! ### a, b = .. with new things of one's own among them -/
def ownV : List Bool → List V → List V
  | true :: fl, v :: vs => v :: ownV fl vs
  | false :: fl, _ :: vs => ownV fl vs
  | _, _ => []
def MixR (K : PySem.W.Frag) (O : List Nat) (B : Base) (σ : L2.St) (F H : Hp) : List Bool → List V → List D → Prop
  | [], [], [] => True
  | false :: fl, v :: vs, d :: ds => Rp K F v d ∧ MixR K O B σ F H fl vs ds
  | true :: fl, v :: vs, d :: ds => (∃ a o, v = V.ref a ∧ Mine K O B σ F H a o d) ∧ v ∉ ownV fl vs ∧ MixR K O B σ F H fl vs ds
  | _, _, _ => False
def MSpec (K : PySem.W.Frag) (mg : MG) (W : WX) (O : List Nat) (fl : List Bool) (f : Env → R (List D)) : TA := fun σ H Q => ∃ B ρ F, Rep K B O ρ σ F H ∧ GPost K mg W O B F σ (f ρ) (fun ds _ F' H' => ∀ vs, MixR K O B σ F' H' fl vs ds → Q vs H')
structure DM (X : Cx) (W : WX) (O : List Nat) (fl : List Bool) (es : List Expr) (f : Env → R (List D)) : Prop where
  pa : PA X es (MSpec X.K X.mg W O fl f)
theorem dm_nil : DM X W O [] [] aNil := by
  refine ⟨pa_imp pa_nil fun σ H Q p => ?_⟩
  obtain ⟨B, ρ, F, rp, p⟩ := p
  exact p F H (Ex.refl F) rp [] trivial
theorem dm_cons {e : Expr} {es : List Expr} {fl : List Bool} (ha : DE X W O e fa) (hr : DM X W O fl es fr) (hs : starEach (e :: es) X.env = (false, eval e X.env) :: starEach es X.env := by rfl) : DM X W O (false :: fl) (e :: es) (aCons fa fr) := by
  refine ⟨pa_imp (pa_cons ha.pe hr.pa hs) fun σ H Q p => ?_⟩
  obtain ⟨B, ρ, F, rp, p⟩ := p
  refine ⟨B, ρ, F, rp, p.bind.imp fun d ρ1 F1 H1 _ e1 rp1 p1 x hx => ?_⟩
  refine ⟨B, ρ1, F1, rp1, p1.bind.imp fun ds ρ2 F2 H2 _ e2 rp2 p2 xs hxs => ?_⟩
  exact p2 F2 H2 (Ex.refl F2) rp2 (x :: xs) ⟨hx.up e2, hxs⟩
/-- a new thing is guarded while others are made -/
theorem Rep.mineGuard {K : PySem.W.Frag} {B : Base} {ρ : Env} {σ : L2.St} {F H : Hp} {a : Addr} {o : HO} {d : D} (r : Rep K B O ρ σ F H) (m : Mine K O B σ F H a o d) : Rep K { B with G := upd B.G a o } O ρ σ F H := by
  obtain ⟨m1, m2, m3, m4, m6, m5⟩ := m
  refine ⟨r.sub, r.len, r.dat, r.own, r.sep, r.par, r.f0, r.fresh, r.keep, fun b u h => ?_, r.pz, fun b u h => ?_⟩
  · have h : upd B.G a o b = some u := h
    by_cases hb : b = a
    · subst hb
      rw [upd_same] at h
      cases h
      exact ⟨m1, m2, m5⟩
    · rw [upd_ne hb] at h
      exact r.grd b u h
  · have h : upd B.G a o b = some u := h
    by_cases hb : b = a
    · rw [hb]; exact m4
    · rw [upd_ne hb] at h
      exact r.gz b u h
theorem MixR.base {K : PySem.W.Frag} {B : Base} {σ : L2.St} {F H : Hp} {a : Addr} {o : HO} : ∀ {fl : List Bool} {vs : List V} {ds : List D}, MixR K O { B with G := upd B.G a o } σ F H fl vs ds → MixR K O B σ F H fl vs ds ∧ V.ref a ∉ ownV fl vs
  | [], [], [], _ => ⟨trivial, fun z => nomatch z⟩
  | false :: fl, v :: vs, d :: ds, h => by
    obtain ⟨h1, h2⟩ := MixR.base h.2
    exact ⟨⟨h.1, h1⟩, h2⟩
  | true :: fl, v :: vs, d :: ds, h => by
    obtain ⟨⟨b, u, rfl, m1, m2, m3, m4, m6, m5⟩, hn, h3⟩ := h
    obtain ⟨h1, h2⟩ := MixR.base h3
    have m6 : upd B.G a o b = none := m6
    have hb : b ≠ a := fun z => by
      rw [z, upd_same] at m6
      cases m6
    rw [upd_ne hb] at m6
    refine ⟨⟨⟨b, u, rfl, m1, m2, m3, m4, m6, m5⟩, hn, h1⟩, fun z => ?_⟩
    rcases List.mem_cons.mp z with z | z
    · exact hb (V.ref.inj z).symm
    · exact h2 z
  | [], _ :: _, _, h => h.elim
  | [], [], _ :: _, h => h.elim
  | true :: _, [], _, h => h.elim
  | false :: _, [], _, h => h.elim
  | true :: _, _ :: _, [], h => h.elim
  | false :: _, _ :: _, [], h => h.elim
theorem dm_consO {e : Expr} {es : List Expr} {fl : List Bool} (ha : DO X W O e fa) (hr : DM X W O fl es fr) (hs : starEach (e :: es) X.env = (false, eval e X.env) :: starEach es X.env := by rfl) : DM X W O (true :: fl) (e :: es) (aCons fa fr) := by
  refine ⟨pa_imp (pa_cons ha.pe hr.pa hs) fun σ H Q p => ?_⟩
  obtain ⟨B, ρ, F, rp, p⟩ := p
  refine ⟨B, ρ, F, rp, p.bind.imp fun d ρ1 F1 H1 _ e1 rp1 p1 a o m => ?_⟩
  refine ⟨{ B with G := upd B.G a o }, ρ1, F1, rp1.mineGuard m, ?_⟩
  have mh := m.2.2.1
  have mg6 := m.2.2.2.2.1
  cases hf : fr ρ1 with
  | bad => rw [hf] at p1; exact p1.elim
  | exc c dx ρ2 =>
    rw [hf] at p1
    intro cl dx' F' H' mc ex r2 eh
    exact p1 cl dx' F' H' mc ex (r2.unGuard mg6).1 eh
  | ok ds ρ2 =>
    rw [hf] at p1
    intro F' H' ex r2 vs hvs
    obtain ⟨r3, q1, q2, q4, q3⟩ := r2.unGuard mg6
    obtain ⟨h1, h2⟩ := MixR.base hvs
    exact p1 F' H' ex r3 (V.ref a :: vs) ⟨⟨a, o, rfl, q1, q2, mh.up ex, q4, mg6, q3⟩, h2, h1⟩
/-- one of them is stored -/
@[simp] def addO (b : Bool) (i : Nat) (O : List Nat) : List Nat := match b with
  | true => i :: O
  | false => O
theorem Rep.putV {K : PySem.W.Frag} {B : Base} {ρ : Env} {σ : L2.St} {F H : Hp} (r : Rep K B O ρ σ F H) {i : Nat} {b : Bool} {v : V} {d : D} {fl : List Bool} {vs : List V} {ds : List D} (hi : i ∉ O) (hl : i < ρ.length) (m : MixR K O B σ F H (b :: fl) (v :: vs) (d :: ds)) :
    Rep K B (addO b i O) (ρ.set i (some d)) (σ.set i (some v)) F H ∧ MixR K (addO b i O) B (σ.set i (some v)) F H fl vs ds := by
  have keep : ∀ (O2 : List Nat) (x : V), (∀ a, V.ref a ∈ ownV fl vs → V.ref a ≠ x) → (∀ j, j ∈ O2 → j = i ∨ (j ∈ O ∧ j ≠ i)) → ∀ {fl' : List Bool} {vs' : List V} {ds' : List D}, (∀ u, u ∈ ownV fl' vs' → u ∈ ownV fl vs) → MixR K O B σ F H fl' vs' ds' → MixR K O2 B (σ.set i (some x)) F H fl' vs' ds' := by
    intro O2 x hx hO fl'
    induction fl' with
    | nil => intro vs' ds' _ h; cases vs' <;> cases ds' <;> exact h
    | cons c fl' ih =>
      intro vs' ds' hs h
      cases c <;> cases vs' <;> cases ds' <;> first | exact h.elim | skip
      · exact ⟨h.1, ih (fun u hu => hs u hu) h.2⟩
      · obtain ⟨⟨a, o, rfl, m1, m2, m3, m4, m6, m5⟩, hn, h3⟩ := h
        refine ⟨⟨a, o, rfl, m1, m2, m3, m4, m6, fun j hj z => ?_⟩, hn, ih (fun u hu => hs u (List.mem_cons_of_mem _ hu)) h3⟩
        rcases hO j hj with e | ⟨hj', ne⟩
        · subst e
          rcases set_some z with ⟨_, e'⟩ | ⟨ne, _⟩
          · exact hx a (hs _ List.mem_cons_self) (Option.some.inj e')
          · exact ne rfl
        · rw [List.getElem?_set_ne (Ne.symm ne)] at z
          exact m5 j hj' z
  cases b with
  | false =>
    obtain ⟨h1, h2⟩ := m
    refine ⟨r.store hi h1, ?_⟩
    have k2 : ∀ {fl' : List Bool} {vs' : List V} {ds' : List D}, MixR K O B σ F H fl' vs' ds' → MixR K O B (σ.set i (some v)) F H fl' vs' ds' := by
      intro fl'
      induction fl' with
      | nil => intro vs' ds' h; cases vs' <;> cases ds' <;> exact h
      | cons c fl' ih =>
        intro vs' ds' h
        cases c <;> cases vs' <;> cases ds' <;> first | exact h.elim | skip
        · exact ⟨h.1, ih h.2⟩
        · obtain ⟨⟨a, o, rfl, m1, m2, m3, m4, m6, m5⟩, hn, h3⟩ := h
          refine ⟨⟨a, o, rfl, m1, m2, m3, m4, m6, fun j hj z => ?_⟩, hn, ih h3⟩
          rw [List.getElem?_set_ne (fun e => hi (by rw [e]; exact hj))] at z
          exact m5 j hj z
    exact k2 h2
  | true =>
    obtain ⟨⟨a, o, rfl, m1, m2, m3, m4, m6, m5⟩, hn, h2⟩ := m
    refine ⟨r.take hi hl m1 m2 m3 m4 m6 m5, keep (i :: O) (V.ref a) (fun b hb z => hn (by rw [← z]; exact hb)) (fun j hj => ?_) (fun u hu => hu) h2⟩
    rcases List.mem_cons.mp hj with e | e
    · exact .inl e
    · exact .inr ⟨e, fun z => hi (by rw [← z]; exact e)⟩
@[simp] def sPar2 (i j : Nat) (fr : Env → R (List D)) (ρ : Env) : Out := rOut (fr ρ) fun ds ρ1 => match ds with
  | [d, e] => if i < ρ1.length ∧ j < ρ1.length then .nx ((ρ1.set i (some d)).set j (some e)) else .bad
  | _ => .bad
@[simp] def sPar3 (i j l : Nat) (fr : Env → R (List D)) (ρ : Env) : Out := rOut (fr ρ) fun ds ρ1 => match ds with
  | [d, e, f] => if i < ρ1.length ∧ j < ρ1.length ∧ l < ρ1.length then .nx (((ρ1.set i (some d)).set j (some e)).set l (some f)) else .bad
  | _ => .bad
theorem mem_addO {b : Bool} {i j : Nat} (h : j ∈ addO b i O) : j = i ∨ j ∈ O := by
  cases b with
  | true => exact List.mem_cons.mp h
  | false => exact .inr h
theorem ds_par2 {b1 b2 : Bool} (i j : Nat) {x y : Str} {a b : Expr} {px py pt : Pos} {kt k2 : Nat} {pt2 : Pos} (hc : X.calm = true) (hN : X.N.Nodup) (h : DM X W O [b1, b2] [a, b] fr) (hij : i ≠ j) (hw : swappedStores [.Tuple [.Name x px, .Name y py] kt pt] (.Tuple [a, b] k2 pt2) X.env = pure (some [x, y])) (oi : decide (i ∈ O) = false := by rfl) (oj : decide (j ∈ O) = false := by rfl)
    (hi : X.N[i]? = some x := by rfl) (hj : X.N[j]? = some y := by rfl) (lx : List.lookup x X.env.scope.names = some NameKind.local := by rfl) (ly : List.lookup y X.env.scope.names = some NameKind.local := by rfl)
    (hs : swapsWithSole [.Tuple [.Name x px, .Name y py] kt pt] (.Tuple [a, b] k2 pt2) pos.line X.env = pure false := by rfl) : DS X W own Ol O (.Assign [.Tuple [.Name x px, .Name y py] kt pt] (.Tuple [a, b] k2 pt2) pos) (addO b2 j (addO b1 i O)) (sPar2 i j fr) := by
  refine ⟨ps_imp (ps_par hc hN hi hj hij lx ly h.pa hw hs) fun E σ H p => ?_⟩
  obtain ⟨B, ρ, F, rp, p⟩ := p
  refine ⟨B, ρ, F, rp, (SPost.val p).imp fun ds ρ1 F1 H1 _ e1 rp1 p1 xs hx => ?_⟩
  split at p1
  · split at p1
    · next d e hl =>
      obtain ⟨v, u, rfl⟩ : ∃ v u, xs = [v, u] := by
        cases xs with
        | nil => cases b1 <;> exact hx.elim
        | cons v xs =>
          cases xs with
          | nil =>
            cases b1
            · cases b2 <;> exact hx.2.elim
            · cases b2 <;> exact hx.2.2.elim
          | cons u xs =>
            cases xs with
            | nil => exact ⟨v, u, rfl⟩
            | cons _ _ =>
              cases b1
              · cases b2
                · exact hx.2.2.elim
                · exact hx.2.2.2.elim
              · cases b2
                · exact hx.2.2.2.elim
                · exact hx.2.2.2.2.elim
      obtain ⟨r2, m2⟩ := rp1.putV (of_decide_eq_false oi) hl.1 hx
      obtain ⟨r3, _⟩ := r2.putV (i := j) (fun z => by
        rcases mem_addO z with z | z
        · exact hij z.symm
        · exact of_decide_eq_false oj z) (by rw [List.length_set]; exact hl.2) m2
      exact ⟨v, u, rfl, p1 _ F1 H1 (Ex.refl F1) r3⟩
    · exact p1.elim
  · exact p1.elim
theorem MixR.three {K : PySem.W.Frag} {B : Base} {σ : L2.St} {F H : Hp} {b1 b2 b3 : Bool} {xs : List V} {d e f : D} (h : MixR K O B σ F H [b1, b2, b3] xs [d, e, f]) : ∃ u v w, xs = [u, v, w] := by
  match xs, h with
  | [u, v, w], _ => exact ⟨u, v, w, rfl⟩
  | [], h => cases b1 <;> exact h.elim
  | [_], h => cases b1 <;> cases b2 <;> first | exact h.2.elim | exact h.2.2.elim
  | [_, _], h => cases b1 <;> cases b2 <;> cases b3 <;> first | exact h.2.2.elim | exact h.2.2.2.elim | exact h.2.2.2.2.elim
  | _ :: _ :: _ :: _ :: _, h => cases b1 <;> cases b2 <;> cases b3 <;> first | exact h.2.2.2.elim | exact h.2.2.2.2.elim | exact h.2.2.2.2.2.elim | exact h.2.2.2.2.2.2.elim
theorem ds_par3 {b1 b2 b3 : Bool} (i j l : Nat) {x y z : Str} {a b c : Expr} {px py pz pt : Pos} {kt k2 : Nat} {pt2 : Pos} (hc : X.calm = true) (hN : X.N.Nodup) (h : DM X W O [b1, b2, b3] [a, b, c] fr) (hij : i ≠ j) (hil : i ≠ l) (hjl : j ≠ l)
    (hw : swappedStores [.Tuple [.Name x px, .Name y py, .Name z pz] kt pt] (.Tuple [a, b, c] k2 pt2) X.env = pure (some [x, y, z])) (oi : decide (i ∈ O) = false := by rfl) (oj : decide (j ∈ O) = false := by rfl) (ol : decide (l ∈ O) = false := by rfl)
    (hi : X.N[i]? = some x := by rfl) (hj : X.N[j]? = some y := by rfl) (hl : X.N[l]? = some z := by rfl) (lx : List.lookup x X.env.scope.names = some NameKind.local := by rfl) (ly : List.lookup y X.env.scope.names = some NameKind.local := by rfl) (lz : List.lookup z X.env.scope.names = some NameKind.local := by rfl)
    (hs : swapsWithSole [.Tuple [.Name x px, .Name y py, .Name z pz] kt pt] (.Tuple [a, b, c] k2 pt2) pos.line X.env = pure false := by rfl) : DS X W own Ol O (.Assign [.Tuple [.Name x px, .Name y py, .Name z pz] kt pt] (.Tuple [a, b, c] k2 pt2) pos) (addO b3 l (addO b2 j (addO b1 i O))) (sPar3 i j l fr) := by
  refine ⟨ps_imp (ps_par3 hc hN hi hj hl hij hil hjl lx ly lz h.pa hw hs) fun E σ H p => ?_⟩
  obtain ⟨B, ρ, F, rp, p⟩ := p
  refine ⟨B, ρ, F, rp, (SPost.val p).imp fun ds ρ1 F1 H1 _ e1 rp1 p1 xs hx => ?_⟩
  split at p1
  · split at p1
    · next d e f hl =>
      obtain ⟨u, v, w, rfl⟩ := hx.three
      obtain ⟨r2, m2⟩ := rp1.putV (of_decide_eq_false oi) hl.1 hx
      obtain ⟨r3, m3⟩ := r2.putV (i := j) (fun z => by
        rcases mem_addO z with z | z
        · exact hij z.symm
        · exact of_decide_eq_false oj z) (by rw [List.length_set]; exact hl.2.1) m2
      obtain ⟨r4, _⟩ := r3.putV (i := l) (fun z => by
        rcases mem_addO z with z | z
        · exact hjl z.symm
        · rcases mem_addO z with z | z
          · exact hil z.symm
          · exact of_decide_eq_false ol z) (by rw [List.length_set, List.length_set]; exact hl.2.2) m3
      exact ⟨u, v, w, rfl, p1 _ F1 H1 (Ex.refl F1) r4⟩
    · exact p1.elim
  · exact p1.elim
/-! ### names, .. = things, ..: by way of a tuple that nobody keeps -/
@[simp] def setAllD : List Nat → List D → Env → Env
  | i :: is, d :: ds, ρ => setAllD is ds (ρ.set i (some d))
  | _, _, ρ => ρ
def MGs (K : PySem.W.Frag) (O : List Nat) (fl : List Bool) (is : List Nat) (O' : List Nat) : TGs := fun vs σ H Q => ∃ B ρ F ds, Rep K B O ρ σ F H ∧ MixR K O B σ F H fl vs ds ∧ (∀ i, i ∈ is → i < ρ.length) ∧ ∀ σ', Rep K B O' (setAllD is ds ρ) σ' F H → Q σ' H
structure DGm (X : Cx) (O : List Nat) (fl : List Bool) (is : List Nat) (tgs : List Expr) (O' : List Nat) : Prop where
  pgs : PGs X tgs (MGs X.K O fl is O')
theorem dgm_nil : DGm X O [] [] [] O := by
  refine ⟨pgs_imp pgs_nil fun v σ H Q p => ?_⟩
  obtain ⟨B, ρ, F, ds, rp, m, hl, q⟩ := p
  cases v <;> cases ds <;> first | exact m.elim | skip
  exact ⟨rfl, q _ rp⟩
theorem dgm_cons (i : Nat) {b : Bool} {fl : List Bool} {is : List Nat} {x : Str} {px : Pos} {tgs : List Expr} (hN : X.N.Nodup) (hr : DGm X (addO b i O) fl is tgs O') (ho : decide (i ∈ O) = false := by rfl) (hi : X.N[i]? = some x := by rfl) (hx : Loc X.env.scope x := by first | exact Or.inl rfl | exact Or.inr rfl)
    (hf : X.fn x = true ∨ X.env.scope.names.lookup x = some .local := by first | exact .inl rfl | exact .inr rfl | assumption) (hs : (assignEach (.Name x px :: tgs) X.env).map (·.2) = assign (.Name x px) X.env :: (assignEach tgs X.env).map (·.2) := by rfl) : DGm X O (b :: fl) (i :: is) (.Name x px :: tgs) O' := by
  refine ⟨pgs_imp (pgs_cons (pg_name hN hi hx hf) hr.pgs hs) fun vs σ H Q p => ?_⟩
  obtain ⟨B, ρ, F, ds, rp, m, hl, q⟩ := p
  cases vs with
  | nil => cases b <;> exact m.elim
  | cons v vs =>
    cases ds with
    | nil => cases b <;> exact m.elim
    | cons d ds =>
      obtain ⟨r2, m2⟩ := rp.putV (of_decide_eq_false ho) (hl i List.mem_cons_self) m
      exact ⟨v, vs, rfl, B, _, F, ds, r2, m2, fun j hj => by rw [List.length_set]; exact hl j (List.mem_cons_of_mem _ hj), q⟩
@[simp] def sUnp (is : List Nat) (fr : Env → R (List D)) (ρ : Env) : Out := rOut (fr ρ) fun ds ρ1 => if is.all (fun i => decide (i < ρ1.length)) = true then .nx (setAllD is ds ρ1) else .bad
theorem MixR.laid {K : PySem.W.Frag} {B : Base} {σ : L2.St} {F H : Hp} {p : Addr} {o : HO} (hp : H p = none) : ∀ {fl : List Bool} {vs : List V} {ds : List D}, MixR K O B σ F H fl vs ds → MixR K O B σ F (upd H p o) fl vs ds
  | [], [], [], h => h
  | false :: fl, v :: vs, d :: ds, h => ⟨h.1, MixR.laid hp h.2⟩
  | true :: fl, v :: vs, d :: ds, h => by
    obtain ⟨⟨b, u, rfl, m1, m2⟩, hn, h3⟩ := h
    exact ⟨⟨b, u, rfl, by rw [upd_ne (ne_of_none m1 hp)]; exact m1, m2⟩, hn, MixR.laid hp h3⟩
  | [], _ :: _, _, h => h.elim
  | [], [], _ :: _, h => h.elim
  | true :: _, [], _, h => h.elim
  | false :: _, [], _, h => h.elim
  | true :: _, _ :: _, [], h => h.elim
  | false :: _, _ :: _, [], h => h.elim
theorem MixR.len {K : PySem.W.Frag} {B : Base} {σ : L2.St} {F H : Hp} : ∀ {fl : List Bool} {vs : List V} {ds : List D}, MixR K O B σ F H fl vs ds → vs.length = fl.length
  | [], [], [], h => rfl
  | false :: fl, v :: vs, d :: ds, h => congrArg Nat.succ (MixR.len h.2)
  | true :: fl, v :: vs, d :: ds, h => congrArg Nat.succ (MixR.len h.2.2)
  | [], _ :: _, _, h => h.elim
  | [], [], _ :: _, h => h.elim
  | true :: _, [], _, h => h.elim
  | false :: _, [], _, h => h.elim
  | true :: _, _ :: _, [], h => h.elim
  | false :: _, _ :: _, [], h => h.elim
theorem ds_unp {fl : List Bool} {is : List Nat} {tgs es : List Expr} {k k2 n : Nat} {pt pt2 : Pos} (hc : X.calm = true) (h : DM X W O fl es fr) (hg : DGm X O fl is tgs O') (hfl : fl.length = n := by rfl) (hsz : decide (n ≤ 100000) = true := by rfl)
    (hn : (assignEach tgs X.env).length = n := by rfl) (hst : (assignEach tgs X.env).findIdx? (·.1) = none := by rfl)
    (hs : swapsWithSole [.Tuple tgs k pt] (.Tuple es k2 pt2) pos.line X.env = pure false := by rfl) (hw : swappedStores [.Tuple tgs k pt] (.Tuple es k2 pt2) X.env = pure none := by rfl)
    (h1 : (assignEach [.Tuple tgs k pt] X.env).map (·.2) = [assign (.Tuple tgs k pt) X.env] := by rfl) : DS X W own Ol O (.Assign [.Tuple tgs k pt] (.Tuple es k2 pt2) pos) O' (sUnp is fr) := by
  refine ⟨ps_imp (ps_asg (pe_tup h.pa) (pg_tup hc hg.pgs hn hst) hs hw h1) fun E σ H p => ?_⟩
  obtain ⟨B, ρ, F, rp, p⟩ := p
  refine ⟨B, ρ, F, rp, (SPost.val p).imp fun ds ρ1 F1 H1 _ e1 rp1 p1 xs hx => ?_⟩
  split at p1
  · next hl =>
    have hlen := hx.len
    refine ⟨Evl.sz_of (by rw [hlen, hfl]; exact of_decide_eq_true hsz), fun p hp => ?_⟩
    obtain ⟨r2, _⟩ := rp1.laid (o := .tup xs) hp
    refine ⟨p, xs, rfl, SqT.of upd_same, by rw [hlen, hfl], B, ρ1, F1, ds, r2, hx.laid hp, fun i hi => of_decide_eq_true (List.all_eq_true.mp hl i hi), fun σ' r3 => ?_⟩
    exact p1 σ' F1 _ (Ex.refl F1) r3
  · exact p1.elim
end
section
variable {P : Program} {w : World} {K : PySem.W.Frag} {mg : MG} {base : Heap}
theorem SpP.own_of {g : List D → R0} {vs : List V} {H : Hp} {Q : VK} {E : XK} (h : SpP K mg false g vs H Q E) : SpP K mg true g vs H Q E := by
  obtain ⟨F, ds, h1, h2, h3⟩ := h
  refine ⟨F, ds, h1, h2, ?_⟩
  cases hg : g ds with
  | ok d =>
    rw [hg] at h3
    intro F' H' gr a o q0 q1 q2 q3
    have ex : Ex F' (upd F' a o) := Ex.new q2
    refine h3 (upd F' a o) H' ⟨gr.f.trans ex, fun b u e => ?_, fun b hb hf => ?_, gr.k⟩ (V.ref a) ((q3.up ex).rp upd_same)
    · by_cases hba : b = a
      · subst hba; rw [upd_same] at e; cases e; exact q1
      · rw [upd_ne hba] at e; exact gr.s b u e
    · have hba : b ≠ a := fun z => hb (by rw [z]; exact q0)
      rw [upd_ne hba]
      exact gr.n b hb hf
  | exc c d => rw [hg] at h3; exact h3
  | bad => rw [hg] at h3; exact h3
/-- a new thing may be handed on as data -/
theorem FnG.asData {k : Nat} {f : Addr} {fd : FuncData} {ps : List Str} {g : List D → R0} (G : FnG P w K mg base k f fd ps (SpP K mg true g)) : FnG P w K mg base k f fd ps (SpP K mg false g) :=
  ⟨fun vs H Q E h => G.len vs H Q E (SpP.own_of h), fun A outer s H args us vs Q E ga rm ev bd rl hsp => G.run A outer s H args us vs Q E ga rm ev bd rl (SpP.own_of hsp)⟩
end
section
variable {X : Cx} {W : WX} {O : List Nat} {k : Nat} {f : Addr} {fd : FuncData} {ps : List Str} {x : Str} {p pos : Pos} {g : List D → R0}
theorem do_call0 (G : FnG X.prog X.w X.K X.mg X.base k f fd ps (SpP X.K X.mg true g)) (ga : X.A.guards = some []) (hr : Room k X.A) (hm : X.mg x = some (.ref f)) (hk : PySem.W.keepIn X.K (.ref f) = true) (hb : Binds X.K fd ps [])
    (hg : Gl X x := by rfl) (hdb : (x == ("__debug__" : Str)) = false := by decide) : DO X W O (.Call (.Name x p) [] [] pos) (fCall0 g) := by
  refine ⟨pe_imp (pg_call0 (E := fun _ => E0) G ga hr hg hm hk hb (fun σ pins H s e s' I z => passL pins σ H s e s' I z) hdb) fun σ H Q p => ?_⟩
  obtain ⟨B, ρ, F, rp, p⟩ := p
  refine ⟨F, [], rp.sub, .nil, ?_⟩
  unfold fCall0 at p
  cases hg : g [] with
  | ok d =>
    rw [hg] at p
    intro F' H' gr a o h0 h1 h2 h3
    refine p F' H' gr.f (rp.called gr) a o ⟨h1, h2, h3, ?_, ?_, fun j hj z => ?_⟩
    · cases q : B.H0 a with
      | none => rfl
      | some u => exact absurd h0 (rp.there (ne_some q))
    · cases q : B.G a with
      | none => rfl
      | some u => exact absurd h0 (ne_some (rp.grd a u q).1)
    · obtain ⟨b, o', d', _, h4, h5, _⟩ := rp.own j hj
      rw [z] at h4
      cases h4
      rw [h0] at h5
      cases h5
  | exc c d => rw [hg] at p; exact p.elim
  | bad => rw [hg] at p; exact p.elim
end
end DL


namespace DL
open PySem PySem.Spec PyProof.Rows L2
/-! written data, shown piece by piece -/
mutual
inductive RD (K : PySem.W.Frag) : Nat → Value → D → Prop
  | non {n : Nat} : RD K n .none .non
  | bl {n : Nat} {b : Bool} : RD K n (.bool b) (.bl b)
  | int {n : Nat} {i : Int} {t : Tok} : RD K n (.int i t) (.int i)
  | str {n : Nat} {x : Str} {t : Tok} : RD K n (.str x t) (.str x)
  | tup {n : Nat} {a : Addr} {its : Array Value} {k : Nat} {sl : Array (Option Value)} {ds : List D} : List.lookup a K = some ⟨.type "tuple", none, .seq its k, sl⟩ → decide (its.size ≤ 100000) = true → RDs K n its.toList ds → RD K (n + 1) (.ref a) (.tup ds)
inductive RDs (K : PySem.W.Frag) : Nat → List Value → List D → Prop
  | nil {n : Nat} : RDs K n [] []
  | cons {n : Nat} {u : Value} {us : List Value} {d : D} {ds : List D} : RD K n u d → RDs K n us ds → RDs K n (u :: us) (d :: ds)
end
mutual
theorem rd_ok {K : PySem.W.Frag} : ∀ {n : Nat} {u : Value} {d : D}, RD K n u d → rdK K n u = some d
  | n, _, _, .non => by cases n <;> rfl
  | n, _, _, .bl => by cases n <;> rfl
  | n, _, _, .int => by cases n <;> rfl
  | n, _, _, .str => by cases n <;> rfl
  | _, _, _, .tup (its := its) h1 h2 h3 => by
    have e := rds_ok h3
    have h4 : its.size ≤ sizeLine := Evl.sz_of (of_decide_eq_true h2)
    simp only [rdK]
    have h1' : List.lookup _ K = some (⟨.type "tuple", none, .seq its _, _⟩ : Obj) := h1
    rw [h1']
    simp only [h4, and_self, if_true, e, Option.map_some]
theorem rds_ok {K : PySem.W.Frag} : ∀ {n : Nat} {us : List Value} {ds : List D}, RDs K n us ds → allO (us.map (rdK K n)) = some ds
  | _, _, _, .nil => rfl
  | _, _, _, .cons h t => by
    have e1 := rd_ok h
    have e2 := rds_ok t
    simp only [List.map_cons, e1, allO, e2, Option.map_some]
end
end DL


namespace DL
open PySem PySem.Spec PyProof.Rows L2
open Evl (Ex)
/-! x is True, x is None -/
@[simp] def isA (d e : D) : Option D := match d, e with
  | .bl a, .bl b => some (.bl (decide (a = b)))
  | _, _ => isN d e
@[simp] def notA (d e : D) : Option D := match d, e with
  | .bl a, .bl b => some (.bl (!decide (a = b)))
  | _, _ => notN d e
theorem s_isA {K : PySem.W.Frag} : OpS K (fun x y H Q => (y = V.non ∧ Q (V.bl (decide (x = V.non))) H) ∨ rIsB x y H Q) isA := by
  intro O B ρ σ F H x y d e z Q rp hx hy hz k
  unfold isA at hz
  split at hz
  · next a b =>
    cases hz
    cases hx
    cases hy
    exact .inr ⟨a, b, rfl, rfl, k _ F H (Ex.refl F) rp (.bl _)⟩
  · exact .inl (s_isN O B ρ σ F H x y d e z Q rp hx hy hz k)
theorem s_notA {K : PySem.W.Frag} : OpS K (fun x y H Q => (y = V.non ∧ Q (V.bl !decide (x = V.non)) H) ∨ rNotB x y H Q) notA := by
  intro O B ρ σ F H x y d e z Q rp hx hy hz k
  unfold notA at hz
  split at hz
  · next a b =>
    cases hz
    cases hx
    cases hy
    exact .inr ⟨a, b, rfl, rfl, k _ F H (Ex.refl F) rp (.bl _)⟩
  · exact .inl (s_notN O B ρ σ F H x y d e z Q rp hx hy hz k)
theorem op_isA {X : Cx} : OpR X (compareOp .Is) (fun x y H Q => (y = V.non ∧ Q (V.bl (decide (x = V.non))) H) ∨ rIsB x y H Q) := op_isN.or op_isBl
theorem op_notA {X : Cx} : OpR X (compareOp .IsNot) (fun x y H Q => (y = V.non ∧ Q (V.bl !decide (x = V.non)) H) ∨ rNotB x y H Q) := op_notN.or op_notBl
end DL


namespace DL
open PySem PySem.Spec PyProof.Rows L2
open Evl (Ex)
open PySem.W (EachIs AllAlike Sortable dataLe alike)
/-! ### sorted(xs) of data -/
def rSortD (K : PySem.W.Frag) : List V → Hp → VK → Prop := fun vs H Q => ∃ (a : Addr) (bs : List (V × D)), vs = [V.ref a] ∧ SqL K H a (bs.map (·.1)) ∧ (∀ b, b ∈ bs → Dp K H b.1 (pyD b.2)) ∧ AllAlike (bs.map fun b => pyD b.2) ∧ Sortable (bs.map fun b => pyD b.2) ∧ (∀ b, b ∈ bs → (pyD b.2).depth ≤ 60) ∧
  ∀ p, H p = none → Q (V.ref p) (upd H p (.lst ((bs.mergeSort (dataLe false fun b => pyD b.2)).map (·.1))))
theorem each_vals : ∀ {bs : List (V × D)} {us : List Value}, Vals (bs.map (·.1)) us → EachIs (fun u b => RelV b.1 u) us bs
  | [], _, h => by cases h; exact .nil
  | b :: bs, _, h => by
    cases h with
    | cons r t => exact .cons r (each_vals t)
theorem vals_each : ∀ {bs : List (V × D)} {us : List Value}, EachIs (fun u b => RelV b.1 u) us bs → Vals (bs.map (·.1)) us
  | _, _, .nil => .nil
  | _, _, .cons r t => .cons r (vals_each t)
theorem each_imp {α β : Type} {R S : α → β → Prop} : ∀ {us : List α} {bs : List β}, EachIs R us bs → (∀ u b, b ∈ bs → R u b → S u b) → EachIs S us bs
  | _, _, .nil, _ => .nil
  | _, _, .cons r t, k => .cons (k _ _ List.mem_cons_self r) (each_imp t fun u b hb => k u b (List.mem_cons_of_mem _ hb))
theorem cr_sortD {X : Cx} (hu : X.A.units + 65 < cLine) : CallR X (.builtin "sorted") (rSortD X.K) := by
  intro pins s σ H vs us Q I r h
  obtain ⟨a, bs, rfl, hs, hd, hal, hk, hdep, q⟩ := h
  obtain ⟨its, rv, hl, hz⟩ := I.list hs
  obtain ⟨u, rfl, ru⟩ := vals1 r
  obtain rfl : u = Value.ref a := ru
  have e := each_vals rv
  have hlen : bs.length ≤ sizeLine := by
    rw [List.length_map] at hz; exact hz
  refine PySem.W.sorted_data (R := fun u b => RelV b.1 u) (bs := bs) (enc := fun b => pyD b.2) hl.isList e (each_imp e fun u b hb r => Dp.reads I _ _ _ (hd b hb) r) hal hk hlen (fun b hb => by have := hdep b hb; omega) fun out hlo hR => ?_
  have v2 := vals_each hR
  obtain ⟨n, hn⟩ := sortedAll_at s.heap its out.toArray
  have fresh : H (s.heap.objs.size + 1) = none := I.hok.fresh (Nat.le_succ _)
  have hsz : (List.map (·.1) (bs.mergeSort (dataLe false fun b => pyD b.2))).length ≤ sizeLine := by
    rw [List.length_map, List.length_mergeSort]; exact hlen
  exact ⟨.ref _, upd H (s.heap.objs.size + 1) (.lst _), I.laid (t' := s.toks) (fun b o e => sortedAll_old e) (Nat.le_succ _) ⟨hsz, out, n, v2, hn⟩, rfl, q _ fresh⟩
mutual
def alikeD : D → D → Bool
  | .non, .non => true
  | .bl _, .bl _ => true
  | .int _, .int _ => true
  | .str _, .str _ => true
  | .lst xs, .lst ys => alikeDs xs ys
  | .tup xs, .tup ys => alikeDs xs ys
  | _, _ => false
def alikeDs : List D → List D → Bool
  | x :: xs, y :: ys => alikeD x y && alikeDs xs ys
  | [], _ => true
  | _ :: _, [] => true
end
mutual
theorem alikeD_ok : ∀ (x y : D), alikeD x y = true → alike (pyD x) (pyD y) = true
  | .non, y, h => by cases y <;> simp [alikeD] at h <;> simp [pyD, alike]
  | .bl _, y, h => by cases y <;> simp [alikeD] at h <;> simp [pyD, alike]
  | .int _, y, h => by cases y <;> simp [alikeD] at h <;> simp [pyD, alike]
  | .str _, y, h => by cases y <;> simp [alikeD] at h <;> simp [pyD, alike]
  | .opq _, y, h => by cases y <;> simp [alikeD] at h
  | .scr _, y, h => by cases y <;> simp [alikeD] at h
  | .dct _, y, h => by cases y <;> simp [alikeD] at h
  | .lst xs, y, h => by
    cases y <;> simp [alikeD] at h
    simp only [pyD, alike]
    exact alikeDs_ok xs _ h
  | .tup xs, y, h => by
    cases y <;> simp [alikeD] at h
    simp only [pyD, alike]
    exact alikeDs_ok xs _ h
theorem alikeDs_ok : ∀ (xs ys : List D), alikeDs xs ys = true → PySem.W.alikeAll (pyDs xs) (pyDs ys) = true
  | [], ys, _ => by cases ys <;> simp [pyDs, PySem.W.alikeAll]
  | x :: xs, [], _ => by simp [pyDs, PySem.W.alikeAll]
  | x :: xs, y :: ys, h => by
    simp only [alikeDs, Bool.and_eq_true] at h
    simp only [pyDs, PySem.W.alikeAll, Bool.and_eq_true]
    exact ⟨alikeD_ok x y h.1, alikeDs_ok xs ys h.2⟩
end
def someTup : D → Bool
  | .tup (_ :: _) => true
  | _ => false
def someOne : D → Bool
  | .bl _ => true
  | .int _ => true
  | .str _ => true
  | _ => false
def sortOk (ds : List D) : Bool := okNs 59 ds && decide (ds.length ≤ 100000) && (ds.all fun x => ds.all fun y => alikeD x y) && (ds.all someTup || ds.all someOne)
def sortL (ds : List D) : List D := ds.mergeSort (dataLe false pyD)
def sortF : List D → Option D
  | [.lst ds] => if sortOk ds = true then some (.lst (sortL ds)) else none
  | _ => none
theorem okNs_mem : ∀ {n : Nat} {ds : List D}, okNs n ds = true → ∀ d, d ∈ ds → okN n d = true
  | n, d :: r, h, x, hx => by
    simp only [okNs, Bool.and_eq_true] at h
    rcases List.mem_cons.mp hx with e | hx
    · rw [e]; exact h.1
    · exact okNs_mem h.2 x hx
theorem RpA.zip_fst {K : PySem.W.Frag} {F : Hp} : ∀ {xs : List V} {ds : List D}, RpA K F xs ds → (xs.zip ds).map (·.1) = xs ∧ (xs.zip ds).map (·.2) = ds ∧ ∀ b, b ∈ xs.zip ds → Rp K F b.1 b.2 ∧ b.2 ∈ ds
  | _, _, .nil => ⟨rfl, rfl, fun b hb => nomatch hb⟩
  | _, _, .cons (v := v) (vs := vs) (d := d) (ds := ds) h t => by
    obtain ⟨h1, h2, h3⟩ := RpA.zip_fst t
    refine ⟨by simp only [List.zip_cons_cons, List.map_cons, h1], by simp only [List.zip_cons_cons, List.map_cons, h2], fun b hb => ?_⟩
    rw [List.zip_cons_cons] at hb
    rcases List.mem_cons.mp hb with e | hb
    · rw [e]; exact ⟨h, List.mem_cons_self⟩
    · exact ⟨(h3 b hb).1, List.mem_cons_of_mem _ (h3 b hb).2⟩
theorem rpa_of_all {K : PySem.W.Frag} {F : Hp} : ∀ {bs : List (V × D)}, (∀ b, b ∈ bs → Rp K F b.1 b.2) → RpA K F (bs.map (·.1)) (bs.map (·.2))
  | [], _ => .nil
  | b :: bs, h => .cons (h b List.mem_cons_self) (rpa_of_all fun c hc => h c (List.mem_cons_of_mem _ hc))
section
variable {X : Cx} {W : WX} {O : List Nat} {fr : Env → R (List D)}
theorem do_sorted {x : Str} {p pos : Pos} {e : Expr} (hu : X.A.units + 65 < cLine) (hm : X.mg x = none) (hv : bootBuiltins x = some (.builtin "sorted")) (ha : DA X W O [e] fr)
    (hg : Gl X x := by rfl) (hn : x ≠ "__name__" := by decide) (hd : (x == ("__debug__" : Str)) = false := by decide) (he : starEach (e :: []) X.env = (false, eval e X.env) :: starEach [] X.env := by rfl) (hpl : (backTo pos (starEach [] X.env)).any (·.1) = false := by rfl) :
    DO X W O (.Call (.Name x p) [e] [] pos) (fCl sortF fr) := by
  refine ⟨pe_imp (pe_callB (cr_sortD hu) hg hm hv ha.pa hn hd he hpl) fun σ H Q p => ?_⟩
  obtain ⟨B, ρ, F, rp, p⟩ := p
  refine ⟨B, ρ, F, rp, p.bind.imp fun ds ρ1 F1 H1 hq0 e1 rp1 p1 xs hx => ?_⟩
  obtain ⟨z, hz, q⟩ := liftP p1
  clear hq0
  unfold sortF at hz
  split at hz
  · next es =>
    split at hz
    · next hok =>
      cases hz
      unfold sortOk at hok
      simp only [Bool.and_eq_true] at hok
      obtain ⟨⟨⟨k1, k2⟩, k3⟩, k4⟩ := hok
      cases hx with
      | cons h1 h3 =>
        cases h3
        cases h1 with
        | lst s1 s2 =>
          rename_i a vs
          obtain ⟨z1, z2, z3⟩ := s2.zip_fst
          have hmem : ∀ b, b ∈ vs.zip es → okN 59 b.2 = true := fun b hb => okNs_mem k1 b.2 (z3 b hb).2
          have zl : (vs.zip es).map (fun b => pyD b.2) = es.map pyD := by rw [← z2, List.map_map, z2]; rfl
          refine ⟨a, vs.zip es, rfl, by rw [z1]; exact SqL.of (rp1.sub _ _ s1), fun b hb => (Rp.dp _ _ _ (hmem b hb) ((z3 b hb).1.up rp1.sub)), ?_, ?_, fun b hb => ?_, fun p hp => ?_⟩
          · rw [zl]
            intro d hd d' hd'
            obtain ⟨x, hx, rfl⟩ := List.mem_map.mp hd
            obtain ⟨y, hy, rfl⟩ := List.mem_map.mp hd'
            exact alikeD_ok x y (List.all_eq_true.mp (List.all_eq_true.mp k3 x hx) y hy)
          · rw [zl]
            rcases Bool.or_eq_true_iff.mp k4 with k4 | k4
            · refine .inl fun d hd => ?_
              obtain ⟨x, hx, rfl⟩ := List.mem_map.mp hd
              have := List.all_eq_true.mp k4 x hx
              cases x <;> simp [someTup] at this
              rename_i ys
              cases ys with
              | nil => simp [someTup] at this
              | cons y r => exact ⟨pyD y, pyDs r, by simp [pyD, pyDs]⟩
            · refine .inr fun d hd => ?_
              obtain ⟨x, hx, rfl⟩ := List.mem_map.mp hd
              have := List.all_eq_true.mp k4 x hx
              cases x <;> simp [someOne] at this <;> simp [pyD]
          · have := (okN_shaped _ _ (hmem b hb)).2.1
            omega
          · have fin : (List.mergeSort (vs.zip es) (dataLe false fun b => pyD b.2)).map (·.2) = sortL es := by
              unfold sortL
              have e := List.map_mergeSort (r := dataLe false fun b : V × D => pyD b.2) (s := dataLe false pyD) (f := fun b : V × D => b.2) (l := vs.zip es) fun a _ b _ => rfl
              rw [e, z2]
            have ra : RpA X.K F1 ((List.mergeSort (vs.zip es) (dataLe false fun b => pyD b.2)).map (·.1)) (sortL es) := by
              rw [← fin]
              exact rpa_of_all fun b hb => (z3 b (List.mem_mergeSort.mp hb)).1
            obtain ⟨r', m2, m4, m6, m5⟩ := rp1.laid (o := .lst _) hp
            exact q _ _ (Ex.refl F1) r' _ _ ⟨upd_same, m2, .lst ra, m4, m6, m5⟩
    · cases hz
  · cases hz
end
end DL


namespace DL
open PySem PySem.Spec PyProof.Rows L2
open Evl (Ex)
/-! ### [e for a in .. if .. for b in .. if ..] -/
@[simp] def lcL2 (set : D → Env → Option Env) (t : Env → R Bool) (fi1 : Env → R (List D)) (set1 : D → Env → Option Env) (t1 : Env → R Bool) (f : Env → R D) (vs vs1 : List Nat) : List D → List D → Env → R (List D)
  | [], acc, ρ => .ok acc ρ
  | d :: r, acc, ρ => match set d (wipeD ρ vs) with
    | none => .bad
    | some ρ1 => match t ρ1 with
      | .ok false ρ2 => lcL2 set t fi1 set1 t1 f vs vs1 r acc ρ2
      | .ok true ρ2 => match fi1 ρ2 with
        | .ok ds1 ρ3 => match lcL set1 t1 f vs1 ds1 acc ρ3 with
          | .ok acc' ρ4 => lcL2 set t fi1 set1 t1 f vs vs1 r acc' ρ4
          | .exc _ _ _ => .bad
          | .bad => .bad
        | .exc _ _ _ => .bad
        | .bad => .bad
      | .exc _ _ _ => .bad
      | .bad => .bad
@[simp] def fLc2 (vs vs1 : List Nat) (fi : Env → R (List D)) (set : D → Env → Option Env) (t : Env → R Bool) (fi1 : Env → R (List D)) (set1 : D → Env → Option Env) (t1 : Env → R Bool) (f : Env → R D) (ρ : Env) : R D := (fi ρ).bind fun ds ρ1 => match lcL2 set t fi1 set1 t1 f vs vs1 ds [] ρ1 with
  | .ok acc ρ2 => .ok (.lst acc) (backD ρ1 ρ2 vs)
  | .exc _ _ _ => .bad
  | .bad => .bad
theorem wipe_out {σ : L2.St} {i : Nat} {vs : List Nat} (hi : i ∈ vs) (hl : i < σ.length) : (L2.wipe σ vs)[i]? = some none := by
  have l1 : i < (L2.wipe σ vs).length := by rw [wipe_length]; exact hl
  rw [List.getElem?_eq_getElem l1, wipe_in hi _ (List.getElem?_eq_getElem l1)]
theorem wipe_eq {σ τ : L2.St} {vs : List Nat} (hl : σ.length = τ.length) (h : ∀ i, i ∉ vs → σ[i]? = τ[i]?) : L2.wipe σ vs = L2.wipe τ vs := by
  apply List.ext_getElem?
  intro i
  by_cases hi : i ∈ vs
  · by_cases hl' : i < σ.length
    · rw [wipe_out hi hl', wipe_out hi (by rw [← hl]; exact hl')]
    · rw [List.getElem?_eq_none (by rw [wipe_length]; omega), List.getElem?_eq_none (by rw [wipe_length]; omega)]
  · rw [wipe_at hi, wipe_at hi]
    exact h i hi
theorem wipe_sub {σ : L2.St} {vs vs1 : List Nat} (hs : ∀ i, i ∈ vs1 → i ∈ vs) : L2.wipe (L2.wipe σ vs1) vs = L2.wipe σ vs :=
  wipe_eq (wipe_length σ vs1) fun i hi => wipe_at fun z => hi (hs i z)
theorem wipeD_in {ρ : Env} {i : Nat} : ∀ {vs : List Nat}, i ∈ vs → i < ρ.length → (wipeD ρ vs)[i]? = some none
  | v :: vs, h, hl => by
    unfold wipeD
    by_cases e : v = i
    · subst e
      exact List.getElem?_set_self (by rw [wipeD_len]; exact hl)
    · rw [List.getElem?_set_ne e]
      exact wipeD_in ((List.mem_cons.mp h).resolve_left (Ne.symm e)) hl
theorem wipeD_sub {ρ : Env} {vs vs1 : List Nat} (hs : ∀ i, i ∈ vs1 → i ∈ vs) : wipeD (wipeD ρ vs1) vs = wipeD ρ vs := by
  apply List.ext_getElem?
  intro i
  by_cases hi : i ∈ vs
  · by_cases hl : i < ρ.length
    · rw [wipeD_in hi (by rw [wipeD_len]; exact hl), wipeD_in hi hl]
    · rw [List.getElem?_eq_none (by rw [wipeD_len, wipeD_len]; omega), List.getElem?_eq_none (by rw [wipeD_len]; omega)]
  · rw [wipeD_at hi, wipeD_at hi, wipeD_at fun z => hi (hs i z)]
section
variable {X : Cx} {W : WX} {own : Bool} {O Ol : List Nat} {fi fi1 : Env → R (List D)} {set1 setB : D → Env → Option Env} {tt tB : Env → R Bool} {fe : Env → R D}
/-- the inner walk: a list that grows beside us -/
theorem spec_in {ts vs1 : List Nat} {σ2 : L2.St} {H4 F3 : Hp} {B : Base} {Dl : Addr} {acc0 : List V} {accD0 accM : List D} {ρ3 ρM : Env} {ds1 : List D} {J : It} {Nx : Hp → Prop} (hv : ∀ v, v ∈ vs1 → v ∉ O) (hts : ∀ i, i ∈ ts → i ∈ vs1)
    (r0 : Rep X.K { B with G := upd B.G Dl (.lst acc0) } O ρ3 σ2 F3 H4) (ha0 : RpA X.K F3 acc0 accD0) (J1 : ItD X.K J F3 ds1) (hL : lcL setB tB fe vs1 ds1 accD0 ρ3 = .ok accM ρM)
    (fin : ∀ acc F' H', Ex F3 F' → Rep X.K { B with G := upd B.G Dl (.lst acc) } O (wipeD ρM vs1) (L2.wipe σ2 vs1) F' H' → RpA X.K F' acc accM → Nx H') :
    ∃ W1 : Nat → Nat → Hp → Prop, (∃ m, W1 0 m H4) ∧ ∀ j k H, W1 j k H → (J.stop j H ∧ Nx H) ∨ (J.go j H ∧ ∃ Nx1 : Hp → Prop, (∀ H', Nx1 H' → ∃ k', k' < k ∧ W1 (j + 1) k' H') ∧ ∀ x H', J.yld j H x H' → GSpec X.K O ts setB x (L2.wipe σ2 vs1) H' fun σ3 H5 => L2.wipe σ3 vs1 = L2.wipe σ2 vs1 ∧ TSpec X.K X.mg W0 O tB σ3 H5 fun b H6 =>
      if b = true then ESpec X.K X.mg W0 O fe σ3 H6 fun y H7 => ∃ acc, H7 Dl = some (.lst acc) ∧ acc.length < sizeLine ∧ Nx1 (upd H7 Dl (.lst (acc ++ [y]))) else Nx1 H6) := by
  refine ⟨fun i m H' => m = ds1.length - i ∧ i ≤ ds1.length ∧ ∃ acc accD ρ' F', Ex F3 F' ∧ Rep X.K { B with G := upd B.G Dl (.lst acc) } O (wipeD ρ' vs1) (L2.wipe σ2 vs1) F' H' ∧ RpA X.K F' acc accD ∧ lcL setB tB fe vs1 (ds1.drop i) accD ρ' = .ok accM ρM,
    ⟨ds1.length, by simp, Nat.zero_le _, acc0, accD0, ρ3, F3, Ex.refl F3, r0.wipe hv, ha0, hL⟩, ?_⟩
  rintro i m H' ⟨rfl, hi, acc, accD, ρ', F', ex, r', ha, hL'⟩
  by_cases hlt : i < ds1.length
  · refine .inr ⟨J1.go F' H' i ex r'.sub hlt, fun H2 => ∃ acc accD ρ' F', Ex F3 F' ∧ Rep X.K { B with G := upd B.G Dl (.lst acc) } O (wipeD ρ' vs1) (L2.wipe σ2 vs1) F' H2 ∧ RpA X.K F' acc accD ∧ lcL setB tB fe vs1 (ds1.drop (i + 1)) accD ρ' = .ok accM ρM,
      fun H2 q => ⟨ds1.length - (i + 1), by omega, rfl, hlt, q⟩, fun x H2 y => ?_⟩
    obtain ⟨d, F2, h1, ex2, r2, hx⟩ := J1.yld _ O _ _ F' H' i x H2 ex r' y hlt
    have hd : ds1.drop i = d :: ds1.drop (i + 1) := by
      rw [List.drop_eq_getElem_cons hlt]
      rw [List.getElem?_eq_getElem hlt] at h1
      rw [Option.some.inj h1]
    rw [hd] at hL'
    cases hs1 : setB d (wipeD ρ' vs1) with
    | none => simp only [lcL, hs1] at hL'; cases hL'
    | some ρ2 =>
      refine ⟨_, _, F2, d, ρ2, r2, hx, hs1, fun σ3 r3 o3 => ⟨only_wipe o3 hts, _, ρ2, F2, r3, ?_⟩⟩
      have ow := only_wipe o3 hts
      cases ht : tB ρ2 with
      | bad => simp only [lcL, hs1, ht] at hL'; cases hL'
      | exc c u ρ3 => simp only [lcL, hs1, ht] at hL'; cases hL'
      | ok b ρ3 =>
        intro F3 H3 e3 r4
        cases b with
        | false =>
          have hL2 : lcL setB tB fe vs1 (ds1.drop (i + 1)) accD ρ3 = .ok accM ρM := by simp only [lcL, hs1, ht] at hL'; exact hL'
          have r5 := r4.wipe hv
          rw [ow] at r5
          exact iteF ⟨acc, accD, ρ3, F3, ex.trans (ex2.trans e3), r5, ha.up (ex2.trans e3), hL2⟩
        | true =>
          refine iteT ⟨_, ρ3, F3, r4, ?_⟩
          cases hf : fe ρ3 with
          | bad => simp only [lcL, hs1, ht, hf] at hL'; cases hL'
          | exc c u ρ4 => simp only [lcL, hs1, ht, hf] at hL'; cases hL'
          | ok z ρ4 =>
            intro F4 H4 e4 r6 v hz
            have hg : upd B.G Dl (.lst acc) Dl = some (.lst acc) := upd_same
            have hl : accD.length < 100000 := by
              simp only [lcL, hs1, ht, hf] at hL'
              split at hL'
              · assumption
              · cases hL'
            have hL2 : lcL setB tB fe vs1 (ds1.drop (i + 1)) (accD ++ [z]) ρ4 = .ok accM ρM := by
              simp only [lcL, hs1, ht, hf, if_pos hl] at hL'
              exact hL'
            have r7 := (Rep.guard (o' := .lst (acc ++ [v])) r6 hg).wipe hv
            rw [ow] at r7
            have r8 : Rep X.K { B with G := upd B.G Dl (.lst (acc ++ [v])) } O (wipeD ρ4 vs1) (L2.wipe σ2 vs1) F4 (upd H4 Dl (.lst (acc ++ [v]))) := by
              have e : upd (upd B.G Dl (.lst acc)) Dl (.lst (acc ++ [v])) = upd B.G Dl (.lst (acc ++ [v])) := upd_upd
              have r7' : Rep X.K { B with G := upd (upd B.G Dl (.lst acc)) Dl (.lst (acc ++ [v])) } O (wipeD ρ4 vs1) (L2.wipe σ2 vs1) F4 (upd H4 Dl (.lst (acc ++ [v]))) := r7
              rw [e] at r7'
              exact r7'
            refine ⟨acc, (r6.grd Dl _ hg).1, Evl.sz_lt (by rw [ha.length]; exact hl), acc ++ [v], accD ++ [z], ρ4, F4, ex.trans (ex2.trans (e3.trans e4)), r8, (ha.up (ex2.trans (e3.trans e4))).append (.one hz), hL2⟩
  · have e : i = ds1.length := by omega
    subst e
    rw [List.drop_length] at hL'
    simp only [lcL] at hL'
    cases hL'
    exact .inl ⟨J1.stop F' H' _ ex r'.sub (Nat.le_refl _), fin acc F' H' ex r' ha⟩
theorem spec_lc2 {ts ts1 vs vs1 : List Nat} {σ : L2.St} {H : Hp} {Q : VK} (hv : ∀ v, v ∈ vs → v ∉ O) (hts : ∀ i, i ∈ ts → i ∈ vs) (hts1 : ∀ i, i ∈ ts1 → i ∈ vs1) (hs1 : ∀ i, i ∈ vs1 → i ∈ vs) (p : OSpec X.K X.mg W O (fLc2 vs vs1 fi set1 tt fi1 setB tB fe) σ H Q) :
    tLc2 (ISpec X.K X.mg W O fi) (GSpec X.K O ts set1) (TSpec X.K X.mg W0 O tt) (ISpec X.K X.mg W0 O fi1) (GSpec X.K O ts1 setB) (TSpec X.K X.mg W0 O tB) (ESpec X.K X.mg W0 O fe) vs vs1 σ H Q := by
  obtain ⟨B, ρ, F, rp, p⟩ := p
  refine ⟨B, ρ, F, rp, p.bind.imp fun ds ρ1 F1 H1 _ e1 rp1 p1 J J1 Dl hD => ?_⟩
  cases hL : lcL2 set1 tt fi1 setB tB fe vs vs1 ds [] ρ1 with
  | bad => rw [hL] at p1; exact p1.elim
  | exc c d ρ2 => rw [hL] at p1; exact p1.elim
  | ok accF ρF =>
    rw [hL] at p1
    have gD : B.G Dl = none := by
      cases e : B.G Dl with
      | none => rfl
      | some u =>
        have q := (rp1.grd Dl u e).1
        rw [hD] at q
        cases q
    refine ⟨fun i m H' => m = ds.length - i ∧ i ≤ ds.length ∧ ∃ acc accD ρ' F', Ex F1 F' ∧ Rep X.K { B with G := upd B.G Dl (.lst acc) } O (wipeD ρ' vs) (L2.wipe σ vs) F' H' ∧ RpA X.K F' acc accD ∧ lcL2 set1 tt fi1 setB tB fe vs vs1 (ds.drop i) accD ρ' = .ok accF ρF,
      ⟨ds.length, by simp, Nat.zero_le _, [], [], ρ1, F1, Ex.refl F1, (rp1.newGuard hD).wipe hv, .nil, hL⟩, ?_⟩
    rintro i m H' ⟨rfl, hi, acc, accD, ρ', F', ex, r', ha, hL'⟩
    by_cases hlt : i < ds.length
    · refine .inr ⟨J1.go F' H' i ex r'.sub hlt, fun H2 => ∃ acc accD ρ' F', Ex F1 F' ∧ Rep X.K { B with G := upd B.G Dl (.lst acc) } O (wipeD ρ' vs) (L2.wipe σ vs) F' H2 ∧ RpA X.K F' acc accD ∧ lcL2 set1 tt fi1 setB tB fe vs vs1 (ds.drop (i + 1)) accD ρ' = .ok accF ρF,
        fun H2 q => ⟨ds.length - (i + 1), by omega, rfl, hlt, q⟩, fun x H2 y => ?_⟩
      obtain ⟨d, F2, h1, ex2, r2, hx⟩ := J1.yld _ O _ _ F' H' i x H2 ex r' y hlt
      have hd : ds.drop i = d :: ds.drop (i + 1) := by
        rw [List.drop_eq_getElem_cons hlt]
        rw [List.getElem?_eq_getElem hlt] at h1
        rw [Option.some.inj h1]
      rw [hd] at hL'
      cases hs : set1 d (wipeD ρ' vs) with
      | none => simp only [lcL2, hs] at hL'; cases hL'
      | some ρ2 =>
        refine ⟨_, _, F2, d, ρ2, r2, hx, hs, fun σ2 r3 o3 => ⟨only_wipe o3 hts, _, ρ2, F2, r3, ?_⟩⟩
        have ow := only_wipe o3 hts
        cases ht : tt ρ2 with
        | bad => simp only [lcL2, hs, ht] at hL'; cases hL'
        | exc c u ρ3 => simp only [lcL2, hs, ht] at hL'; cases hL'
        | ok b ρ3 =>
          intro F3 H3 e3 r4
          cases b with
          | false =>
            have hL2 : lcL2 set1 tt fi1 setB tB fe vs vs1 (ds.drop (i + 1)) accD ρ3 = .ok accF ρF := by simp only [lcL2, hs, ht] at hL'; exact hL'
            have r5 := r4.wipe hv
            rw [ow] at r5
            exact iteF ⟨acc, accD, ρ3, F3, ex.trans (ex2.trans e3), r5, ha.up (ex2.trans e3), hL2⟩
          | true =>
            refine iteT ⟨_, ρ3, F3, r4, ?_⟩
            cases hf : fi1 ρ3 with
            | bad => simp only [lcL2, hs, ht, hf] at hL'; cases hL'
            | exc c u ρ4 => simp only [lcL2, hs, ht, hf] at hL'; cases hL'
            | ok ds1 ρ4 =>
              intro F4 H4 e4 r6 Ji Jd
              cases hm : lcL setB tB fe vs1 ds1 accD ρ4 with
              | bad => simp only [lcL2, hs, ht, hf, hm] at hL'; cases hL'
              | exc c u ρ5 => simp only [lcL2, hs, ht, hf, hm] at hL'; cases hL'
              | ok accM ρM =>
                have hL2 : lcL2 set1 tt fi1 setB tB fe vs vs1 (ds.drop (i + 1)) accM ρM = .ok accF ρF := by simp only [lcL2, hs, ht, hf, hm] at hL'; exact hL'
                refine spec_in (B := B) (acc0 := acc) (accD0 := accD) (fun v hv1 => hv v (hs1 v hv1)) hts1 r6 (ha.up (ex2.trans (e3.trans e4))) Jd hm fun acc2 F5 H5 e5 r7 ha2 => ?_
                have r8 := r7.wipe hv
                rw [wipe_sub hs1, wipeD_sub hs1, ow] at r8
                exact ⟨acc2, accM, ρM, F5, ex.trans (ex2.trans (e3.trans (e4.trans e5))), r8, ha2, hL2⟩
    · have e : i = ds.length := by omega
      subst e
      rw [List.drop_length] at hL'
      simp only [lcL2] at hL'
      cases hL'
      obtain ⟨r3, q1, q2, q4, q3⟩ := r'.unGuard gD
      have r4 := Rep.unwipe rp1 r3 ex hv (fun i hi => wipe_at hi) (by rw [wipe_length])
      rw [backD_wipe] at r4
      refine .inl ⟨J1.stop F' H' _ ex r'.sub (Nat.le_refl _), p1 F' H' ex r4 Dl (.lst acc) ⟨q1, q2, .lst ha, q4, gD, fun j hj z => ?_⟩⟩
      refine q3 j hj ?_
      rw [wipe_at (fun w => hv j w hj)]
      exact z
theorem do_lc2 {ts ts1 vs1 : List Nat} {elt tg iter tg1 iter1 : Expr} {ifs ifs1 : List Expr} {scope : Scope} {sl : List (Str × Nat)} {pos : Pos} (hc : X.calm = true) (hN : X.N.Nodup) (hi : DI X W O tg iter fi) (ok : BlkOk X.N X.env.scope scope sl)
    (hg : ∀ (s : Shared) (H : Hp) (C : Addr) (cl : List (Str × Addr)) (fp : List Addr), DG (X.blk s H scope (compEnvC scope cl C X.env) fp) O ts tg set1) (ht : ∀ (s : Shared) (H : Hp) (C : Addr) (cl : List (Str × Addr)) (fp : List Addr), DTs (X.blk s H scope (compEnvC scope cl C X.env) fp) W0 O ifs tt)
    (hi1 : ∀ (s : Shared) (H : Hp) (C : Addr) (cl : List (Str × Addr)) (fp : List Addr), DI (X.blk s H scope (compEnvC scope cl C X.env) fp) W0 O tg1 iter1 fi1)
    (hg1 : ∀ (s : Shared) (H : Hp) (C : Addr) (cl : List (Str × Addr)) (fp : List Addr), DG (X.blk s H scope (compEnvC scope cl C X.env) fp) O ts1 tg1 setB) (ht1 : ∀ (s : Shared) (H : Hp) (C : Addr) (cl : List (Str × Addr)) (fp : List Addr), DTs (X.blk s H scope (compEnvC scope cl C X.env) fp) W0 O ifs1 tB)
    (he : ∀ (s : Shared) (H : Hp) (C : Addr) (cl : List (Str × Addr)) (fp : List Addr), DE (X.blk s H scope (compEnvC scope cl C X.env) fp) W0 O elt fe)
    (hv : ∀ v, v ∈ sl.map (·.2) → v ∉ O) (hts : ∀ i, i ∈ ts → i ∈ sl.map (·.2)) (hts1 : ∀ i, i ∈ ts1 → i ∈ vs1) (hs1 : ∀ i, i ∈ vs1 → i ∈ sl.map (·.2)) (hs : ∀ x, foldedSetIterable iter X.env x = pure x := by intro _; rfl) (hs2 : ∀ env x, foldedSetIterable iter1 env x = pure x := by intro _ _; rfl) :
    DO X W O (.ListComp elt [⟨tg, iter, ifs, 0⟩, ⟨tg1, iter1, ifs1, 0⟩] scope pos) (fLc2 (sl.map (·.2)) vs1 fi set1 tt fi1 setB tB fe) :=
  ⟨pe_imp (pe_lc2 (te := ESpec X.K X.mg W0 O fe) (tt := TSpec X.K X.mg W0 O tt) (g := GSpec X.K O ts set1) (wi1 := ISpec X.K X.mg W0 O fi1) (g1 := GSpec X.K O ts1 setB) (tt1 := TSpec X.K X.mg W0 O tB) hc hN hi.pi ok hs1 (fun s H C cl fp => (hg s H C cl fp).pg) (fun s H C cl fp => (ht s H C cl fp).pts) (fun s H C cl fp => (hi1 s H C cl fp).pi) (fun s H C cl fp => (hg1 s H C cl fp).pg) (fun s H C cl fp => (ht1 s H C cl fp).pts) (fun s H C cl fp => (he s H C cl fp).pe) hs hs2) fun _ _ _ p => spec_lc2 hv hts hts1 hs1 p⟩
theorem ds_setLc2 (i : Nat) {y : Str} {py : Pos} {ts ts1 vs1 : List Nat} {elt tg iter tg1 iter1 : Expr} {ifs ifs1 : List Expr} {scope : Scope} {sl : List (Str × Nat)} {pos spos : Pos} (hc : X.calm = true) (hN : X.N.Nodup) (hy : X.N[i]? = some y) (hyl : X.env.scope.names.lookup y = some .local)
    (hsw : swapsWith (.ListComp elt [⟨tg, iter, ifs, 0⟩, ⟨tg1, iter1, ifs1, 0⟩] scope pos) (some (.Name y py)) spos.line X.env = pure true) (hi : DI X W O tg iter fi) (ok : BlkOk X.N X.env.scope scope sl)
    (hg : ∀ (s : Shared) (H : Hp) (C : Addr) (cl : List (Str × Addr)) (fp : List Addr), DG (X.blk s H scope (compEnvC scope cl C X.env) fp) O ts tg set1) (ht : ∀ (s : Shared) (H : Hp) (C : Addr) (cl : List (Str × Addr)) (fp : List Addr), DTs (X.blk s H scope (compEnvC scope cl C X.env) fp) W0 O ifs tt)
    (hi1 : ∀ (s : Shared) (H : Hp) (C : Addr) (cl : List (Str × Addr)) (fp : List Addr), DI (X.blk s H scope (compEnvC scope cl C X.env) fp) W0 O tg1 iter1 fi1)
    (hg1 : ∀ (s : Shared) (H : Hp) (C : Addr) (cl : List (Str × Addr)) (fp : List Addr), DG (X.blk s H scope (compEnvC scope cl C X.env) fp) O ts1 tg1 setB) (ht1 : ∀ (s : Shared) (H : Hp) (C : Addr) (cl : List (Str × Addr)) (fp : List Addr), DTs (X.blk s H scope (compEnvC scope cl C X.env) fp) W0 O ifs1 tB)
    (he : ∀ (s : Shared) (H : Hp) (C : Addr) (cl : List (Str × Addr)) (fp : List Addr), DE (X.blk s H scope (compEnvC scope cl C X.env) fp) W0 O elt fe)
    (ho : decide (i ∈ O) = false) (hv : ∀ v, v ∈ sl.map (·.2) → v ∉ O) (hts : ∀ i, i ∈ ts → i ∈ sl.map (·.2)) (hts1 : ∀ i, i ∈ ts1 → i ∈ vs1) (hs1 : ∀ i, i ∈ vs1 → i ∈ sl.map (·.2)) (hs : ∀ x, foldedSetIterable iter X.env x = pure x := by intro _; rfl) (hs2 : ∀ env x, foldedSetIterable iter1 env x = pure x := by intro _ _; rfl) :
    DS X W own Ol O (.Assign [.Name y py] (.ListComp elt [⟨tg, iter, ifs, 0⟩, ⟨tg1, iter1, ifs1, 0⟩] scope pos) spos) O (sSet i (fLc2 (sl.map (·.2)) vs1 fi set1 tt fi1 setB tB fe)) := by
  refine ⟨ps_imp (ps_setLc2 (te := ESpec X.K X.mg W0 O fe) (tt := TSpec X.K X.mg W0 O tt) (g := GSpec X.K O ts set1) (wi1 := ISpec X.K X.mg W0 O fi1) (g1 := GSpec X.K O ts1 setB) (tt1 := TSpec X.K X.mg W0 O tB) hc hN hy hyl hsw hi.pi ok hs1 (fun s H C cl fp => (hg s H C cl fp).pg) (fun s H C cl fp => (ht s H C cl fp).pts) (fun s H C cl fp => (hi1 s H C cl fp).pi) (fun s H C cl fp => (hg1 s H C cl fp).pg) (fun s H C cl fp => (ht1 s H C cl fp).pts) (fun s H C cl fp => (he s H C cl fp).pe) hs hs2) fun E σ H p => ?_⟩
  refine spec_lc2 (W := W) hv hts hts1 hs1 ?_
  obtain ⟨B, ρ, F, rp, p⟩ := p
  refine ⟨B, ρ, F, rp, (SPost.val p).imp fun d ρ1 F1 H1 _ e1 rp1 p1 a o m => ?_⟩
  obtain ⟨ex, r2, hr⟩ := rp1.adopt m
  exact p1 _ _ H1 ex (r2.store (of_decide_eq_false ho) hr)
theorem ds_setLc2O (i : Nat) {y : Str} {py : Pos} {ts ts1 vs1 : List Nat} {elt tg iter tg1 iter1 : Expr} {ifs ifs1 : List Expr} {scope : Scope} {sl : List (Str × Nat)} {pos spos : Pos} (hc : X.calm = true) (hN : X.N.Nodup) (hy : X.N[i]? = some y) (hyl : X.env.scope.names.lookup y = some .local)
    (hsw : swapsWith (.ListComp elt [⟨tg, iter, ifs, 0⟩, ⟨tg1, iter1, ifs1, 0⟩] scope pos) (some (.Name y py)) spos.line X.env = pure true) (hi : DI X W O tg iter fi) (ok : BlkOk X.N X.env.scope scope sl)
    (hg : ∀ (s : Shared) (H : Hp) (C : Addr) (cl : List (Str × Addr)) (fp : List Addr), DG (X.blk s H scope (compEnvC scope cl C X.env) fp) O ts tg set1) (ht : ∀ (s : Shared) (H : Hp) (C : Addr) (cl : List (Str × Addr)) (fp : List Addr), DTs (X.blk s H scope (compEnvC scope cl C X.env) fp) W0 O ifs tt)
    (hi1 : ∀ (s : Shared) (H : Hp) (C : Addr) (cl : List (Str × Addr)) (fp : List Addr), DI (X.blk s H scope (compEnvC scope cl C X.env) fp) W0 O tg1 iter1 fi1)
    (hg1 : ∀ (s : Shared) (H : Hp) (C : Addr) (cl : List (Str × Addr)) (fp : List Addr), DG (X.blk s H scope (compEnvC scope cl C X.env) fp) O ts1 tg1 setB) (ht1 : ∀ (s : Shared) (H : Hp) (C : Addr) (cl : List (Str × Addr)) (fp : List Addr), DTs (X.blk s H scope (compEnvC scope cl C X.env) fp) W0 O ifs1 tB)
    (he : ∀ (s : Shared) (H : Hp) (C : Addr) (cl : List (Str × Addr)) (fp : List Addr), DE (X.blk s H scope (compEnvC scope cl C X.env) fp) W0 O elt fe)
    (ho : decide (i ∈ O) = false) (hv : ∀ v, v ∈ sl.map (·.2) → v ∉ O) (hts : ∀ i, i ∈ ts → i ∈ sl.map (·.2)) (hts1 : ∀ i, i ∈ ts1 → i ∈ vs1) (hs1 : ∀ i, i ∈ vs1 → i ∈ sl.map (·.2)) (hs : ∀ x, foldedSetIterable iter X.env x = pure x := by intro _; rfl) (hs2 : ∀ env x, foldedSetIterable iter1 env x = pure x := by intro _ _; rfl) :
    DS X W own Ol O (.Assign [.Name y py] (.ListComp elt [⟨tg, iter, ifs, 0⟩, ⟨tg1, iter1, ifs1, 0⟩] scope pos) spos) (i :: O) (sSetO i (fLc2 (sl.map (·.2)) vs1 fi set1 tt fi1 setB tB fe)) := by
  refine ⟨ps_imp (ps_setLc2 (te := ESpec X.K X.mg W0 O fe) (tt := TSpec X.K X.mg W0 O tt) (g := GSpec X.K O ts set1) (wi1 := ISpec X.K X.mg W0 O fi1) (g1 := GSpec X.K O ts1 setB) (tt1 := TSpec X.K X.mg W0 O tB) hc hN hy hyl hsw hi.pi ok hs1 (fun s H C cl fp => (hg s H C cl fp).pg) (fun s H C cl fp => (ht s H C cl fp).pts) (fun s H C cl fp => (hi1 s H C cl fp).pi) (fun s H C cl fp => (hg1 s H C cl fp).pg) (fun s H C cl fp => (ht1 s H C cl fp).pts) (fun s H C cl fp => (he s H C cl fp).pe) hs hs2) fun E σ H p => ?_⟩
  refine spec_lc2 (W := W) hv hts hts1 hs1 ?_
  obtain ⟨B, ρ, F, rp, p⟩ := p
  refine ⟨B, ρ, F, rp, (SPost.val p).imp fun d ρ1 F1 H1 _ e1 rp1 p1 a o m => ?_⟩
  split at p1
  · next hl =>
    obtain ⟨m1, m2, m3, m4, m6, m5⟩ := m
    exact p1 _ F1 H1 (Ex.refl F1) (rp1.take (of_decide_eq_false ho) hl m1 m2 m3 m4 m6 m5)
  · exact p1.elim
/-- an empty dict -/
theorem do_dct0 {pos : Pos} : DO X W O (.Dict [] [] pos) (fC (.dct [])) := by
  refine ⟨pe_imp pe_dnewK fun σ H Q p => ?_⟩
  obtain ⟨B, ρ, F, rp, p⟩ := p
  intro q hq
  obtain ⟨r', m2, m4, m6, m5⟩ := rp.laid (o := .dK []) hq
  exact p _ _ (Ex.refl F) r' _ _ ⟨upd_same, m2, .dct .nil, m4, m6, m5⟩
end
end DL


namespace DL
open PySem PySem.Spec PyProof.Rows L2
open Evl (Ex)
open PySem.Calls
open PySem.W PySem.SeqAt
/-! ### sorting tuples whose later places need not be of one kind: compared only as far as the first place that differs -/
def lexA : List PyData → List PyData → Bool
  | x :: p, y :: q => alike x y && (!(PyData.eqv x y) || lexA p q)
  | _, _ => true
theorem lexA_1 {x y : PyData} {p q : List PyData} (g : lexA (x :: p) (y :: q) = true) : alike x y = true := by
  simp only [lexA, Bool.and_eq_true] at g
  exact g.1
theorem lexA_2 {x y : PyData} {p q : List PyData} (g : lexA (x :: p) (y :: q) = true) (k : PyData.eqv x y = true) : lexA p q = true := by
  simp only [lexA, Bool.and_eq_true, k, Bool.not_true, Bool.false_or] at g
  exact g.2
theorem lex_uni {H : Heap} : ∀ (p q : List PyData) (us : List Value) (c c' : List Addr), lexA p q = true → ReadsAll H us p c → ReadsAll H us q c' → p = q
  | [], q, us, c, c', g, r, r' => by cases r; cases r'; rfl
  | x :: p, [], us, c, c', g, r, r' => by cases r'; cases r
  | x :: p, y :: q, us, c, c', g, r, r' => by
    cases r with
    | cons r1 r2 =>
      cases r' with
      | cons k1 k2 =>
        have e := alike_unique x y _ _ _ (lexA_1 g) r1 k1
        subst e
        have g2 := lexA_2 g (eqv_refl_alike x (lexA_1 g))
        rw [lex_uni p q _ _ _ g2 r2 k2]
/-- tuples with a place at least, any two of them comparable as far as they go -/
def LexAll (ds : List PyData) : Prop := (∀ d, d ∈ ds → ∃ x p, d = .tuple (x :: p)) ∧ ∀ p, PyData.tuple p ∈ ds → ∀ q, PyData.tuple q ∈ ds → lexA p q = true
theorem LexAll.uni {H : Heap} {ds : List PyData} (L : LexAll ds) {d d' : PyData} (hd : d ∈ ds) (hd' : d' ∈ ds) {v : Value} {c c' : List Addr} (r : Reads H v d c) (r' : Reads H v d' c') : d = d' := by
  obtain ⟨x, p, rfl⟩ := L.1 d hd
  obtain ⟨y, q, rfl⟩ := L.1 d' hd'
  have g := L.2 _ hd _ hd'
  cases r with
  | tuple a1 a2 a3 a4 =>
    cases r' with
    | tuple b1 b2 b3 b4 =>
      rw [a1] at b1; cases b1
      rw [a3] at b3; cases b3
      rw [lex_uni _ _ _ _ _ g a4 b4]
theorem key_lex {H : Heap} {ds : List PyData} (L : LexAll ds) {v : Value} {d : PyData} {c : List Addr} (hd : d ∈ ds) (r : Reads H v d c) : (dataKind H ds).keyOf v = some (keyToks d) := by
  cases e : (dataKind H ds).keyOf v with
  | some k =>
    obtain ⟨d', c', m, r', rfl⟩ := dataKind_inv e
    exact congrArg (fun z => some (keyToks z)) (L.uni m hd r' r)
  | none =>
    have w : ∃ d, d ∈ ds ∧ ∃ c, Reads H v d c := ⟨d, hd, c, r⟩
    unfold dataKind at e
    simp only at e
    rw [dif_pos w] at e
    cases e
theorem keys_lex {H : Heap} {ds : List PyData} (L : LexAll ds) {us : List Value} (e : EachIs (fun v d => ∃ c, Reads H v d c) us ds) : EachIs (fun v d => (dataKind H ds).keyOf v = some (keyToks d)) us ds :=
  (each_mem e).mono fun _ _ z => by
    obtain ⟨⟨c, r⟩, m⟩ := z
    exact key_lex L m r
section
variable {prog : Program} {w : World} {A : Around} {s : Shared}
theorem kat_lex {b t : Bool} {Q : Bool → Shared → Prop} : ∀ (p q : List PyData) (i : Nat) (us zs : List Value) (c c' : List Addr), ReadsAll s.heap us p c → ReadsAll s.heap zs q c' → lexA p q = true →
    A.units + min (PyData.depthAll p) (PyData.depthAll q) < cLine → (b = true → i = 0 → ∀ x r y, p = x :: r → x ≠ .tuple y) → t = decide (p.length < q.length) →
    Q (lexLt itemOrd (keyToksAll p) (keyToksAll q)) s → KatLex prog w A b t Q (us.zip zs) i s
  | [], q, i, us, zs, c, c', r, r', g, hu, hb, ht, z => katLex_alike [] q i us zs c c' r r' (by simp [alikeAll]) hu hb ht z
  | x :: p, [], i, us, zs, c, c', r, r', g, hu, hb, ht, z => katLex_alike (x :: p) [] i us zs c c' r r' (by simp [alikeAll]) hu hb ht z
  | x :: p, y :: q, i, us, zs, c, c', r, r', g, hu, hb, ht, z => by
    have g1 := lexA_1 g
    have ht' : t = decide (p.length < q.length) := by
      rw [ht]
      exact decide_eq_decide.mpr (by simp only [List.length_cons]; omega)
    cases r with
    | cons r1 r2 =>
      cases r' with
      | cons k1 k2 =>
        refine kat_cons (eqAt_alike x y A s _ _ _ _ r1 k1 g1 (room_head hu) prog w _ _ ?_)
        cases e : PyData.eqv x y with
        | true =>
          rw [dataLt_all_yes g1 e] at z
          refine kat_yes (kat_lex p q (i + 1) _ _ _ _ r2 k2 (lexA_2 g e) (room_tail hu) (fun _ k => ?_) ht' z)
          exact absurd k (Nat.succ_ne_zero i)
        | false =>
          rw [dataLt_all_no g1 e] at z
          refine kat_no (oneLt_alike (fun k y' => ?_) r1 k1 g1 (ne_none_of g1 e) (room_head hu) z)
          have k := Bool.and_eq_true_iff.mp k
          exact hb k.1 (beq_iff_eq.mp k.2) x p y' rfl
theorem sorts_lex {us : List Value} {ds : List PyData} (e : EachIs (fun v d => ∃ c, Reads s.heap v d c) us ds) (L : LexAll ds) (hu : ∀ d, d ∈ ds → A.units + d.depth < cLine) : SortsAt prog w A s (dataKind s.heap ds) us := by
  refine ⟨fun v hv => ?_, ?_⟩
  · obtain ⟨d, m, c, r⟩ := e.left v hv
    exact ⟨_, key_lex L m r⟩
  · cases ds with
    | nil =>
      cases e
      refine ⟨general', fun E x y a b Q ha _ _ => ?_, fun h2 => absurd h2 (by simp)⟩
      obtain ⟨d, _, m, _⟩ := dataKind_inv ha
      exact nomatch m
    | cons d0 rest =>
      obtain ⟨x0, p0, e0⟩ := L.1 d0 List.mem_cons_self
      have first : ∀ x p, PyData.tuple (x :: p) ∈ d0 :: rest → alike x x0 = true := by
        intro x p m
        refine lexA_1 (L.2 _ m (x0 :: p0) ?_)
        rw [← e0]
        exact List.mem_cons_self
      refine ⟨tuples' (dataType x0 != Value.type "tuple"), fun E u v a b Q ha hb z => ?_, fun h2 E Q z => ?_⟩
      · obtain ⟨d, c, m, r, rfl⟩ := dataKind_inv ha
        obtain ⟨d', c', m', r', rfl⟩ := dataKind_inv hb
        have rm : A.units + min d.depth d'.depth < cLine := Nat.lt_of_le_of_lt (Nat.add_le_add_left (Nat.min_le_left _ _) _) (hu d m)
        obtain ⟨x1, p1, rfl⟩ := L.1 d m
        obtain ⟨x2, p2, rfl⟩ := L.1 d' m'
        have z' : Q (dataLt (.tuple (x1 :: p1)) (.tuple (x2 :: p2))) s := z
        rw [dataLt_tuple] at z'
        cases r with
        | tuple a1 a2 a3 a4 =>
          cases r' with
          | tuple b1 b2 b3 b4 =>
            have n1 := SeqAt.ReadsAll.length _ _ _ a4
            have n2 := SeqAt.ReadsAll.length _ _ _ b4
            rw [Array.length_toList] at n1 n2
            refine kat_lt a1 a3 b1 b3 (kat_lex (x1 :: p1) (x2 :: p2) 0 _ _ _ _ a4 b4 (L.2 _ m _ m') ?_ (fun k _ x q y ex => ?_) (by rw [n1, n2]) z')
            · have := SeqAt.room_in rm
              omega
            · obtain ⟨rfl, rfl⟩ := List.cons.inj ex
              rw [← dataType_alike (first _ _ m)] at k
              exact dataType_tuple k y
      · obtain ⟨fs, t1, t2, t3⟩ := each_katTups e L.1
        refine kat_kind (T := dataType x0) t1 (by omega) (fun f hf => ?_) (beq_self_eq_true _) z
        obtain ⟨x, p, c, m1, m2⟩ := t3 f hf
        rw [← dataType_alike (first x p m1)]
        exact looks_reads m2
theorem sorted_lex {β : Type} {E : Value → Shared → Prop} {l : Addr} {us : List Value} {bs : List β} {enc : β → PyData} {R : Value → β → Prop} {Q : Value → Shared → Prop} (hl : s.heap.IsList l us.toArray) (e : EachIs R us bs) (er : EachIs (fun v b => ∃ c, Reads s.heap v (enc b) c) us bs)
    (L : LexAll (bs.map enc)) (hL : bs.length ≤ sizeLine) (hu : ∀ b, b ∈ bs → A.units + 2 + (enc b).depth < cLine)
    (k : ∀ out, out.length = bs.length → EachIs R out (bs.mergeSort (dataLe false enc)) → Q (.ref (s.heap.objs.size + 1)) { s with heap := sortedAll s.heap us (List.toArray out) }) : wpAny (model prog w) A (call (.builtin "sorted") [.ref l]) Q E s := by
  have er2 : EachIs (fun v b => ∃ c, Reads (sortingHeap (copyHeap s.heap us) (s.heap.objs.size + 1) us) v (enc b) c) us bs := er.mono fun _ _ z => by
    obtain ⟨c, r⟩ := z
    exact ⟨c, PyProof.Rows.Reads.keeps (fun _ _ => sorting_copy_old) r⟩
  have er3 := each_map (R := fun v d => ∃ c, Reads (sortingHeap (copyHeap s.heap us) (s.heap.objs.size + 1) us) v d c) enc er2
  refine sorted_vals hl (sorts_lex (s := { s with heap := sortingHeap (copyHeap s.heap us) (s.heap.objs.size + 1) us }) er3 L (bound_map hu)) (by rw [e.length]; exact hL) (k _ ?_ ?_)
  · rw [sortVals_length false rfl]
    exact e.length
  · exact sortVals_each (κ := dataKind _ (bs.map enc)) (fun b => keyToks (enc b)) e (each_of_map enc (keys_lex L er3))
/-- what sorted needs of its items: all alike, or tuples that can be compared as far as they go -/
def SrtAny (ds : List PyData) : Prop := (AllAlike ds ∧ Sortable ds) ∨ LexAll ds
theorem sorted_any {β : Type} {E : Value → Shared → Prop} {l : Addr} {us : List Value} {bs : List β} {enc : β → PyData} {R : Value → β → Prop} {Q : Value → Shared → Prop} (hl : s.heap.IsList l us.toArray) (e : EachIs R us bs) (er : EachIs (fun v b => ∃ c, Reads s.heap v (enc b) c) us bs)
    (L : SrtAny (bs.map enc)) (hL : bs.length ≤ sizeLine) (hu : ∀ b, b ∈ bs → A.units + 2 + (enc b).depth < cLine)
    (k : ∀ out, out.length = bs.length → EachIs R out (bs.mergeSort (dataLe false enc)) → Q (.ref (s.heap.objs.size + 1)) { s with heap := sortedAll s.heap us (List.toArray out) }) : wpAny (model prog w) A (call (.builtin "sorted") [.ref l]) Q E s := by
  rcases L with ⟨h1, h2⟩ | L
  · exact PySem.W.sorted_data hl e er h1 h2 hL hu k
  · exact sorted_lex hl e er L hL hu k
end
def rSort2 (K : PySem.W.Frag) : List V → Hp → VK → Prop := fun vs H Q => ∃ (a : Addr) (bs : List (V × D)), vs = [V.ref a] ∧ SqL K H a (bs.map (·.1)) ∧ (∀ b, b ∈ bs → Dp K H b.1 (pyD b.2)) ∧ SrtAny (bs.map fun b => pyD b.2) ∧ (∀ b, b ∈ bs → (pyD b.2).depth ≤ 60) ∧
  ∀ p, H p = none → Q (V.ref p) (upd H p (.lst ((bs.mergeSort (dataLe false fun b => pyD b.2)).map (·.1))))
theorem cr_sort2 {X : Cx} (hu : X.A.units + 65 < cLine) : CallR X (.builtin "sorted") (rSort2 X.K) := by
  intro pins s σ H vs us Q I r h
  obtain ⟨a, bs, rfl, hs, hd, hk, hdep, q⟩ := h
  obtain ⟨its, rv, hl, hz⟩ := I.list hs
  obtain ⟨u, rfl, ru⟩ := vals1 r
  obtain rfl : u = Value.ref a := ru
  have e := each_vals rv
  have hlen : bs.length ≤ sizeLine := by
    rw [List.length_map] at hz; exact hz
  refine sorted_any (R := fun u b => RelV b.1 u) (bs := bs) (enc := fun b => pyD b.2) hl.isList e (DL.each_imp e fun u b hb r => Dp.reads I _ _ _ (hd b hb) r) hk hlen (fun b hb => by have := hdep b hb; omega) fun out hlo hR => ?_
  have v2 := vals_each hR
  obtain ⟨n, hn⟩ := sortedAll_at s.heap its out.toArray
  have fresh : H (s.heap.objs.size + 1) = none := I.hok.fresh (Nat.le_succ _)
  have hsz : (List.map (·.1) (bs.mergeSort (dataLe false fun b => pyD b.2))).length ≤ sizeLine := by
    rw [List.length_map, List.length_mergeSort]; exact hlen
  exact ⟨.ref _, upd H (s.heap.objs.size + 1) (.lst _), I.laid (t' := s.toks) (fun b o e => sortedAll_old e) (Nat.le_succ _) ⟨hsz, out, n, v2, hn⟩, rfl, q _ fresh⟩
def lexT : D → D → Bool
  | .tup p, .tup q => lexA (pyDs p) (pyDs q)
  | _, _ => false
def sortOkL (ds : List D) : Bool := okNs 59 ds && decide (ds.length ≤ 100000) && (ds.all fun x => ds.all fun y => lexT x y) && ds.all someTup
theorem lex_all {ds : List D} (k3 : (ds.all fun x => ds.all fun y => lexT x y) = true) (k4 : ds.all someTup = true) : LexAll (ds.map pyD) := by
  refine ⟨fun d hd => ?_, fun p hp q hq => ?_⟩
  · obtain ⟨x, hx, rfl⟩ := List.mem_map.mp hd
    have := List.all_eq_true.mp k4 x hx
    cases x <;> simp [someTup] at this
    rename_i ys
    cases ys with
    | nil => simp [someTup] at this
    | cons y r => exact ⟨pyD y, pyDs r, by simp [pyD, pyDs]⟩
  · obtain ⟨x, hx, ex⟩ := List.mem_map.mp hp
    obtain ⟨y, hy, ey⟩ := List.mem_map.mp hq
    have g := List.all_eq_true.mp (List.all_eq_true.mp k3 x hx) y hy
    cases x <;> simp [lexT] at g
    cases y <;> simp at g
    simp only [pyD] at ex ey
    injection ex with ex
    injection ey with ey
    rw [← ex, ← ey]
    exact g
def someLst : D → Bool
  | .lst _ => true
  | _ => false
def sortOkS (ds : List D) : Bool := okNs 59 ds && decide (ds.length ≤ 100000) && (ds.all fun x => ds.all fun y => alikeD x y) && ds.all someLst
def sort2F : List D → Option D
  | [.lst ds] => if (sortOk ds || (sortOkL ds || sortOkS ds)) = true then some (.lst (sortL ds)) else none
  | _ => none
theorem any_of {ds : List D} (h : (sortOk ds || (sortOkL ds || sortOkS ds)) = true) : okNs 59 ds = true ∧ ds.length ≤ 100000 ∧ SrtAny (ds.map pyD) := by
  rcases Bool.or_eq_true_iff.mp h with h | h
  · unfold sortOk at h
    simp only [Bool.and_eq_true] at h
    obtain ⟨⟨⟨k1, k2⟩, k3⟩, k4⟩ := h
    refine ⟨k1, of_decide_eq_true k2, .inl ⟨?_, ?_⟩⟩
    · intro d hd d' hd'
      obtain ⟨x, hx, rfl⟩ := List.mem_map.mp hd
      obtain ⟨y, hy, rfl⟩ := List.mem_map.mp hd'
      exact alikeD_ok x y (List.all_eq_true.mp (List.all_eq_true.mp k3 x hx) y hy)
    · rcases Bool.or_eq_true_iff.mp k4 with k4 | k4
      · refine .inl fun d hd => ?_
        obtain ⟨x, hx, rfl⟩ := List.mem_map.mp hd
        have := List.all_eq_true.mp k4 x hx
        cases x <;> simp [someTup] at this
        rename_i ys
        cases ys with
        | nil => simp [someTup] at this
        | cons y r => exact ⟨pyD y, pyDs r, by simp [pyD, pyDs]⟩
      · refine .inr fun d hd => ?_
        obtain ⟨x, hx, rfl⟩ := List.mem_map.mp hd
        have := List.all_eq_true.mp k4 x hx
        cases x <;> simp [someOne] at this <;> simp [pyD]
  · rcases Bool.or_eq_true_iff.mp h with h | h
    · unfold sortOkL at h
      simp only [Bool.and_eq_true] at h
      obtain ⟨⟨⟨k1, k2⟩, k3⟩, k4⟩ := h
      exact ⟨k1, of_decide_eq_true k2, .inr (lex_all k3 k4)⟩
    · unfold sortOkS at h
      simp only [Bool.and_eq_true] at h
      obtain ⟨⟨⟨k1, k2⟩, k3⟩, k4⟩ := h
      refine ⟨k1, of_decide_eq_true k2, .inl ⟨?_, .inr fun d hd => ?_⟩⟩
      · intro d hd d' hd'
        obtain ⟨x, hx, rfl⟩ := List.mem_map.mp hd
        obtain ⟨y, hy, rfl⟩ := List.mem_map.mp hd'
        exact alikeD_ok x y (List.all_eq_true.mp (List.all_eq_true.mp k3 x hx) y hy)
      · obtain ⟨x, hx, rfl⟩ := List.mem_map.mp hd
        have := List.all_eq_true.mp k4 x hx
        cases x <;> simp [someLst] at this <;> simp [pyD]
section
variable {X : Cx} {W : WX} {O : List Nat} {fr : Env → R (List D)}
theorem do_sort2 {x : Str} {p pos : Pos} {e : Expr} (hu : X.A.units + 65 < cLine) (hm : X.mg x = none) (hv : bootBuiltins x = some (.builtin "sorted")) (ha : DA X W O [e] fr)
    (hg : Gl X x := by rfl) (hn : x ≠ "__name__" := by decide) (hd : (x == ("__debug__" : Str)) = false := by decide) (he : starEach (e :: []) X.env = (false, eval e X.env) :: starEach [] X.env := by rfl) (hpl : (backTo pos (starEach [] X.env)).any (·.1) = false := by rfl) :
    DO X W O (.Call (.Name x p) [e] [] pos) (fCl sort2F fr) := by
  refine ⟨pe_imp (pe_callB (cr_sort2 hu) hg hm hv ha.pa hn hd he hpl) fun σ H Q p => ?_⟩
  obtain ⟨B, ρ, F, rp, p⟩ := p
  refine ⟨B, ρ, F, rp, p.bind.imp fun ds ρ1 F1 H1 hq0 e1 rp1 p1 xs hx => ?_⟩
  obtain ⟨z, hz, q⟩ := liftP p1
  clear hq0
  unfold sort2F at hz
  split at hz
  · next es =>
    split at hz
    · next hok =>
      cases hz
      obtain ⟨k1, k2, k3⟩ := any_of hok
      cases hx with
      | cons h1 h3 =>
        cases h3
        cases h1 with
        | lst s1 s2 =>
          rename_i a vs
          obtain ⟨z1, z2, z3⟩ := s2.zip_fst
          have hmem : ∀ b, b ∈ vs.zip es → okN 59 b.2 = true := fun b hb => okNs_mem k1 b.2 (z3 b hb).2
          have zl : (vs.zip es).map (fun b => pyD b.2) = es.map pyD := by rw [← z2, List.map_map, z2]; rfl
          refine ⟨a, vs.zip es, rfl, by rw [z1]; exact SqL.of (rp1.sub _ _ s1), fun b hb => (Rp.dp _ _ _ (hmem b hb) ((z3 b hb).1.up rp1.sub)), by rw [zl]; exact k3, fun b hb => ?_, fun p hp => ?_⟩
          · have := (okN_shaped _ _ (hmem b hb)).2.1
            omega
          · have fin : (List.mergeSort (vs.zip es) (dataLe false fun b => pyD b.2)).map (·.2) = sortL es := by
              unfold sortL
              have e := List.map_mergeSort (r := dataLe false fun b : V × D => pyD b.2) (s := dataLe false pyD) (f := fun b : V × D => b.2) (l := vs.zip es) fun a _ b _ => rfl
              rw [e, z2]
            have ra : RpA X.K F1 ((List.mergeSort (vs.zip es) (dataLe false fun b => pyD b.2)).map (·.1)) (sortL es) := by
              rw [← fin]
              exact rpa_of_all fun b hb => (z3 b (List.mem_mergeSort.mp hb)).1
            obtain ⟨r', m2, m4, m6, m5⟩ := rp1.laid (o := .lst _) hp
            exact q _ _ (Ex.refl F1) r' _ _ ⟨upd_same, m2, .lst ra, m4, m6, m5⟩
    · cases hz
  · cases hz
end
end DL


namespace DL
open PySem PySem.Spec PyProof.Rows L2
open Evl (Ex)
/-! ### min and max of a list of whole numbers -/
theorem fold_min : ∀ (ns : List Int) (n : Int), ns.foldl min n ∈ n :: ns ∧ ∀ y, y ∈ n :: ns → ns.foldl min n ≤ y
  | [], n => ⟨List.mem_cons_self, fun y h => by rcases List.mem_cons.mp h with rfl | h; exact Int.le_refl _; exact nomatch h⟩
  | m :: ns, n => by
    obtain ⟨h1, h2⟩ := fold_min ns (min n m)
    have k1 : min n m ≤ n := Int.min_le_left _ _
    have k2 : min n m ≤ m := Int.min_le_right _ _
    have k3 := h2 _ List.mem_cons_self
    refine ⟨?_, fun y h => ?_⟩
    · show ns.foldl min (min n m) ∈ _
      rcases List.mem_cons.mp h1 with e | h
      · rw [e]
        rcases Int.le_total n m with q | q
        · rw [Int.min_eq_left q]; exact List.mem_cons_self
        · rw [Int.min_eq_right q]; exact List.mem_cons_of_mem _ List.mem_cons_self
      · exact List.mem_cons_of_mem _ (List.mem_cons_of_mem _ h)
    · show ns.foldl min (min n m) ≤ y
      rcases List.mem_cons.mp h with rfl | h
      · omega
      · rcases List.mem_cons.mp h with rfl | h
        · omega
        · exact h2 y (List.mem_cons_of_mem _ h)
theorem fold_max : ∀ (ns : List Int) (n : Int), ns.foldl max n ∈ n :: ns ∧ ∀ y, y ∈ n :: ns → y ≤ ns.foldl max n
  | [], n => ⟨List.mem_cons_self, fun y h => by rcases List.mem_cons.mp h with rfl | h; exact Int.le_refl _; exact nomatch h⟩
  | m :: ns, n => by
    obtain ⟨h1, h2⟩ := fold_max ns (max n m)
    have k1 : n ≤ max n m := Int.le_max_left _ _
    have k2 : m ≤ max n m := Int.le_max_right _ _
    have k3 := h2 _ List.mem_cons_self
    refine ⟨?_, fun y h => ?_⟩
    · show ns.foldl max (max n m) ∈ _
      rcases List.mem_cons.mp h1 with e | h
      · rw [e]
        rcases Int.le_total n m with q | q
        · rw [Int.max_eq_right q]; exact List.mem_cons_of_mem _ List.mem_cons_self
        · rw [Int.max_eq_left q]; exact List.mem_cons_self
      · exact List.mem_cons_of_mem _ (List.mem_cons_of_mem _ h)
    · show y ≤ ns.foldl max (max n m)
      rcases List.mem_cons.mp h with rfl | h
      · omega
      · rcases List.mem_cons.mp h with rfl | h
        · omega
        · exact h2 y (List.mem_cons_of_mem _ h)
def minLF : List D → Option D
  | [.lst xs] => match intsD xs with
    | some (n :: ns) => some (.int (ns.foldl min n))
    | _ => none
  | _ => none
def maxLF : List D → Option D
  | [.lst xs] => match intsD xs with
    | some (n :: ns) => some (.int (ns.foldl max n))
    | _ => none
  | _ => none
section
variable {K : PySem.W.Frag}
theorem s_minL : ClS K (rMin K) minLF := by
  intro O B ρ σ F H xs ds z Q rp hx hz k
  unfold minLF at hz
  split at hz
  · next ys =>
    obtain ⟨x, rfl, h⟩ := hx.one_of
    split at hz
    · next n ns q =>
      cases hz
      cases h with
      | lst h1 h2 =>
        refine ⟨_, n :: ns, rfl, by rw [← ints_at h2 q]; exact SqL.of (rp.sub _ _ h1), Nat.succ_pos _, fun m hm hle => ?_⟩
        obtain ⟨f1, f2⟩ := fold_min ns n
        have e : m = ns.foldl min n := Int.le_antisymm (hle _ f1) (f2 m hm)
        rw [e]
        exact k _ F H (Ex.refl F) rp (.int _)
    · cases hz
  · cases hz
theorem s_maxL : ClS K (rMax K) maxLF := by
  intro O B ρ σ F H xs ds z Q rp hx hz k
  unfold maxLF at hz
  split at hz
  · next ys =>
    obtain ⟨x, rfl, h⟩ := hx.one_of
    split at hz
    · next n ns q =>
      cases hz
      cases h with
      | lst h1 h2 =>
        refine ⟨_, n :: ns, rfl, by rw [← ints_at h2 q]; exact SqL.of (rp.sub _ _ h1), Nat.succ_pos _, fun m hm hle => ?_⟩
        obtain ⟨f1, f2⟩ := fold_max ns n
        have e : m = ns.foldl max n := Int.le_antisymm (f2 m hm) (hle _ f1)
        rw [e]
        exact k _ F H (Ex.refl F) rp (.int _)
    · cases hz
  · cases hz
end
end DL


namespace DL
open PySem PySem.Spec PyProof.Rows L2
open PySem.P PySem.StrLaws
open Evl (Ex)
/-! ### repr of empty dicts, by themselves and in tuples -/
mutual
def pyE : D → PyData
  | .non => .none
  | .bl b => .bool b
  | .int i => .int i
  | .str x => .str x
  | .tup xs => .tuple (pyEs xs)
  | .dct _ => .dict []
  | _ => .none
def pyEs : List D → List PyData
  | [] => []
  | d :: r => pyE d :: pyEs r
end
mutual
def okE : Nat → D → Bool
  | _, .non => true
  | _, .bl _ => true
  | _, .int i => decide (i.natAbs.log2 < 1920)
  | _, .str x => strC x
  | _, .opq _ => false
  | _, .lst _ => false
  | _, .scr _ => false
  | 0, .tup _ => false
  | n + 1, .tup xs => okEs n xs
  | _, .dct kvs => kvs.isEmpty
def okEs : Nat → List D → Bool
  | _, [] => true
  | n, d :: r => okE n d && okEs n r
end
mutual
inductive DpE (K : PySem.W.Frag) (H : Hp) : V → PyData → Prop
  | non : DpE K H .non .none
  | bl (b : Bool) : DpE K H (.bl b) (.bool b)
  | int (i : Int) : DpE K H (.int i) (.int i)
  | str (x : Str) : DpE K H (.str x) (.str x)
  | tup {a : Addr} {xs : List V} {ds : List PyData} : SqT K H a xs → DpEs K H xs ds → DpE K H (.ref a) (.tuple ds)
  | dct {a : Addr} : H a = some (.dK []) → DpE K H (.ref a) (.dict [])
inductive DpEs (K : PySem.W.Frag) (H : Hp) : List V → List PyData → Prop
  | nil : DpEs K H [] []
  | cons {v : V} {vs : List V} {d : PyData} {ds : List PyData} : DpE K H v d → DpEs K H vs ds → DpEs K H (v :: vs) (d :: ds)
end
section
variable {X : Cx} {pins : List (Addr × Obj)} {σ : L2.St} {H : Hp} {s : Shared}
mutual
theorem DpE.reads (I : Inv X pins σ H s) : ∀ (d : PyData) (v : V) (u : Value), DpE X.K H v d → RelV v u → ∃ as, Reads s.heap u d as ∧ sysModules ∉ as
  | .none, _, _, h, r => by
    cases h
    cases r
    exact ⟨_, Reads.none, List.not_mem_nil⟩
  | .bool b, _, _, h, r => by
    cases h
    cases r
    exact ⟨_, Reads.bool b, List.not_mem_nil⟩
  | .int i, _, _, h, r => by
    cases h
    obtain ⟨t, rfl⟩ := r
    exact ⟨_, Reads.int i t, List.not_mem_nil⟩
  | .str x, _, _, h, r => by
    cases h
    obtain ⟨t, rfl⟩ := r
    exact ⟨_, Reads.str x t, List.not_mem_nil⟩
  | .list ds, _, _, h, r => by cases h
  | .tuple ds, _, _, h, r => by
    cases h with
    | tup hs ha =>
      cases r
      obtain ⟨its, rv, ⟨o, ho, hc, n, hd⟩, _⟩ := I.tuple hs
      obtain ⟨as, hr, hn⟩ := DpEs.reads I ds _ its ha rv
      exact ⟨_, Reads.tuple ho hc hd hr, hn⟩
  | .dict kvs, _, _, h, r => by
    cases h with
    | @dct a hH =>
      cases r
      obtain ⟨_, hm, vs, kv, o, es, ep, ho, hx, hd, _, hp, _⟩ := I.hok a _ hH
      cases kv
      have he : es.toList = [] := by
        have := hp.length
        exact List.length_eq_zero_iff.mp this
      have h1 : ReadsAll s.heap (es.toList.map (·.key)) (([] : List (PyData × PyData)).map (·.1)) [] := by rw [he]; exact ReadsAll.nil
      have h2 : ReadsAll s.heap (es.toList.map (·.val)) (([] : List (PyData × PyData)).map (·.2)) [] := by rw [he]; exact ReadsAll.nil
      refine ⟨_, Reads.dict ho hx.1 hd h1 h2, fun q => ?_⟩
      have : sysModules = a := by simpa using q
      subst this
      simp at hm
theorem DpEs.reads (I : Inv X pins σ H s) : ∀ (ds : List PyData) (vs : List V) (us : List Value), DpEs X.K H vs ds → Vals vs us → ∃ as, ReadsAll s.heap us ds as ∧ sysModules ∉ as
  | [], _, _, h, r => by
    cases h
    cases r
    exact ⟨_, ReadsAll.nil, List.not_mem_nil⟩
  | d :: ds, _, _, h, r => by
    cases h with
    | cons h1 h2 =>
      cases r with
      | cons r1 r2 =>
        obtain ⟨as, q1, n1⟩ := DpE.reads I d _ _ h1 r1
        obtain ⟨bs, q2, n2⟩ := DpEs.reads I ds _ _ h2 r2
        exact ⟨_, ReadsAll.cons q1 q2, fun q => (List.mem_append.mp q).elim n1 n2⟩
end
end
mutual
theorem Rp.dpE {K : PySem.W.Frag} {F : Hp} : ∀ (n : Nat) (d : D) (v : V), okE n d = true → Rp K F v d → DpE K F v (pyE d)
  | _, .non, _, _, r => by cases r; exact .non
  | _, .bl b, _, _, r => by cases r; exact .bl b
  | _, .int i, _, _, r => by cases r; exact .int i
  | _, .str x, _, _, r => by cases r; exact .str x
  | _, .opq _, _, h, _ => by simp only [okE] at h; cases h
  | _, .lst _, _, h, _ => by simp only [okE] at h; cases h
  | _, .scr _, _, h, _ => by simp only [okE] at h; cases h
  | 0, .tup _, _, h, _ => by simp only [okE] at h; cases h
  | n + 1, .tup xs, _, h, r => by
    simp only [okE] at h
    cases r with
    | tup hs ha => exact .tup hs (RpA.dpE n xs _ h ha)
  | _, .dct kvs, _, h, r => by
    simp only [okE] at h
    have e := List.isEmpty_iff.mp h
    subst e
    cases r with
    | dct hF hk => cases hk; exact .dct hF
theorem RpA.dpE {K : PySem.W.Frag} {F : Hp} : ∀ (n : Nat) (ds : List D) (vs : List V), okEs n ds = true → RpA K F vs ds → DpEs K F vs (pyEs ds)
  | _, [], _, _, r => by cases r; exact .nil
  | n, d :: ds, _, h, r => by
    simp only [okEs, Bool.and_eq_true] at h
    cases r with
    | cons r t => exact .cons (Rp.dpE n d _ h.1 r) (RpA.dpE n ds _ h.2 t)
end
mutual
theorem okE_shaped : ∀ (n : Nat) (d : D), okE n d = true → (pyE d).showable = true ∧ (pyE d).depth ≤ n + 1 ∧ (pyE d).shown.length ≤ wD d
  | n, .non, _ => ⟨by simp only [pyE, PyData.showable], by simp [pyE, PyData.depth], by simp only [pyE, PyData.shown, wD]; decide⟩
  | n, .bl b, _ => ⟨by simp only [pyE, PyData.showable], by simp [pyE, PyData.depth], by simp only [pyE, PyData.shown, wD]; cases b <;> decide⟩
  | n, .int i, h => ⟨by simp only [pyE, PyData.showable]; simpa [okE] using h, by simp [pyE, PyData.depth], by simp only [pyE, PyData.shown, wD]; exact int_len i (of_decide_eq_true (by simpa [okE] using h))⟩
  | n, .str x, h => ⟨by simp only [pyE, PyData.showable], by simp [pyE, PyData.depth], by simp only [pyE, PyData.shown, wD]; exact (strC_ok (by simpa [okE] using h)).2⟩
  | _, .opq _, h => by simp only [okE] at h; cases h
  | _, .lst _, h => by simp only [okE] at h; cases h
  | _, .scr _, h => by simp only [okE] at h; cases h
  | 0, .tup _, h => by simp only [okE] at h; cases h
  | n + 1, .tup xs, h => by
    simp only [okE] at h
    obtain ⟨a, b, c⟩ := okEs_shaped n xs h
    have := tupleText_le (PyData.shownAll (pyEs xs))
    exact ⟨by simp only [pyE, PyData.showable]; exact a, by simp only [pyE, PyData.depth]; omega, by simp only [pyE, PyData.shown, wD]; omega⟩
  | n, .dct _, _ => ⟨by simp only [pyE, PyData.showable, PyData.showableKv], by simp [pyE, PyData.depth, PyData.depthKv], by simp only [pyE, PyData.shown, wD]; decide⟩
theorem okEs_shaped : ∀ (n : Nat) (ds : List D), okEs n ds = true → PyData.showableAll (pyEs ds) = true ∧ PyData.depthAll (pyEs ds) ≤ n + 1 ∧ piled (PyData.shownAll (pyEs ds)) ≤ wDs ds
  | n, [], _ => ⟨by simp [pyEs, PyData.showableAll], by simp [pyEs, PyData.depthAll], by simp [pyEs, PyData.shownAll, piled, wDs]⟩
  | n, d :: r, h => by
    simp only [okEs, Bool.and_eq_true] at h
    obtain ⟨a, b, c⟩ := okE_shaped n d h.1
    obtain ⟨a2, b2, c2⟩ := okEs_shaped n r h.2
    refine ⟨?_, ?_, ?_⟩
    · simp only [pyEs, PyData.showableAll]; rw [a, a2]; rfl
    · simp only [pyEs, PyData.depthAll]; exact Nat.max_le.mpr ⟨b, b2⟩
    · simp only [pyEs, PyData.shownAll, wDs]
      rw [piled_cons]
      omega
end
section
variable {X : Cx} {K : PySem.W.Frag}
def rShowE (K : PySem.W.Frag) : List V → Hp → VK → Prop := fun xs H Q => ∃ x d, xs = [x] ∧ DpE K H x d ∧ d.showable = true ∧ d.depth ≤ 60 ∧ d.shown.length ≤ sizeLine ∧ Q (.str d.shown) H
theorem call_showE (ga : X.A.guards = some []) (hu : X.A.units + 64 < cLine) : CallR X (.builtin "repr") (rShowE X.K) := by
  intro pins s σ H xs us Q I r h
  obtain ⟨x, d, rfl, hd, h1, h3, h4, q⟩ := h
  obtain ⟨u, rfl, rx⟩ := vals1 r
  have fin : ∀ (h' : Heap) (tk : Nat) (t : Tok), (∀ b o, s.heap.get? b = some o → h'.get? b = some o) → EP X pins σ Q (.str d.shown t) { s with heap := h', toks := tk } :=
    fun h' tk t kp => ⟨.str d.shown, H, I.kept kp, ⟨t, rfl⟩, q⟩
  have one : ∀ t : Tok, EP X pins σ Q (.str d.shown t) { s with toks := s.toks + 1 } := fun t => fin s.heap _ t fun _ _ e => e
  cases hd with
  | non => cases rx; exact repr_of_none (one _)
  | bl b => cases rx; exact repr_of_bool (one _)
  | int i =>
    obtain ⟨t, rfl⟩ := rx
    exact PySem.P.repr_of_int (of_decide_eq_true h1) (one _)
  | str z =>
    obtain ⟨t, rfl⟩ := rx
    exact repr_of_str (one _) h4
  | tup hs ha =>
    obtain ⟨as, rd, hn⟩ := DpE.reads I _ _ _ (.tup hs ha) rx
    cases rx
    exact repr_of_reads' rd h1 (fun _ => hn) ga (by omega) (fun _ _ e => e) (fun h' u tk kp => fin h' tk u kp) h4
  | dct hH =>
    obtain ⟨as, rd, hn⟩ := DpE.reads I _ _ _ (.dct hH) rx
    cases rx
    exact repr_of_reads' rd h1 (fun _ => hn) ga (by omega) (fun _ _ e => e) (fun h' u tk kp => fin h' tk u kp) h4
end
mutual
theorem DpE.up {K : PySem.W.Frag} {F F' : Hp} (e : Ex F F') : ∀ (d : PyData) (v : V), DpE K F v d → DpE K F' v d
  | .none, _, h => by cases h; exact .non
  | .bool b, _, h => by cases h; exact .bl b
  | .int i, _, h => by cases h; exact .int i
  | .str x, _, h => by cases h; exact .str x
  | .list _, _, h => by cases h
  | .tuple ds, _, h => by
    cases h with
    | tup hs ha => exact .tup (Evl.ex_t e hs) (DpEs.up e ds _ ha)
  | .dict _, _, h => by
    cases h with
    | dct hH => exact .dct (e _ _ hH)
theorem DpEs.up {K : PySem.W.Frag} {F F' : Hp} (e : Ex F F') : ∀ (ds : List PyData) (vs : List V), DpEs K F vs ds → DpEs K F' vs ds
  | [], _, h => by cases h; exact .nil
  | d :: ds, _, h => by
    cases h with
    | cons h1 h2 => exact .cons (DpE.up e d _ h1) (DpEs.up e ds _ h2)
end
/-- repr(x), x perhaps an empty dict or a tuple with one -/
@[simp] def reprE : List D → Option D
  | [d] => if okN 60 d && decide (wD d ≤ 100000) then some (.str (pyD d).shown) else if okE 50 d && decide (wD d ≤ 100000) then some (.str (pyE d).shown) else none
  | _ => none
theorem s_reprE {K : PySem.W.Frag} : ClS K (fun xs H Q => rShow K xs H Q ∨ rShowE K xs H Q) reprE := by
  intro O B ρ σ F H xs ds z Q rp hx hz k
  unfold reprE at hz
  split at hz
  · next d =>
    split at hz
    · next q =>
      refine .inl (s_repr O B ρ σ F H xs [d] z Q rp hx ?_ k)
      unfold reprF
      simp only [q, if_true]
      exact hz
    · split at hz
      · next q =>
        obtain ⟨x, rfl, h⟩ := hx.one_of
        cases hz
        rw [Bool.and_eq_true] at q
        obtain ⟨a2, a3, a4⟩ := okE_shaped _ _ q.1
        exact .inr ⟨x, _, rfl, Rp.dpE _ _ _ q.1 (h.up rp.sub), a2, by omega, Evl.sz_of (Nat.le_trans a4 (of_decide_eq_true q.2)), k _ F H (Ex.refl F) rp (.str _)⟩
      · cases hz
  · cases hz
end DL


namespace DL
open PySem PySem.Spec PyProof.Rows L2
open Evl (Ex)
/-! ### lists of different lengths, whatever is in them -/
section
variable {X : Cx}
def rEqLen (K : PySem.W.Frag) : R2 := fun x y H Q => ∃ a b xs ys, x = .ref a ∧ y = .ref b ∧ SqL K H a xs ∧ SqL K H b ys ∧ xs.length ≠ ys.length ∧ Q (.bl false) H
def rNeLen (K : PySem.W.Frag) : R2 := fun x y H Q => ∃ a b xs ys, x = .ref a ∧ y = .ref b ∧ SqL K H a xs ∧ SqL K H b ys ∧ xs.length ≠ ys.length ∧ Q (.bl true) H
theorem vals_len : ∀ {xs : List V} {us : List Value}, Vals xs us → xs.length = us.length
  | [], [], _ => rfl
  | _ :: _, _ :: _, h => by
    cases h with
    | cons _ h2 => rw [List.length_cons, List.length_cons, vals_len h2]
theorem op_eqLen (hu : X.A.units + 64 < cLine) : OpR X (compareOp .Eq) (rEqLen X.K) := by
  intro pins s σ H x y v u Q I rx ry h
  obtain ⟨a, b, xs, ys, rfl, rfl, hx, hy, hne, q⟩ := h
  cases rx
  cases ry
  obtain ⟨its, rv, ⟨o, n, ho, hc, _, hd⟩, _⟩ := I.list hx
  obtain ⟨its2, rv2, ⟨o2, n2, ho2, hc2, _, hd2⟩, _⟩ := I.list hy
  have l1 := vals_len rv
  have l2 := vals_len rv2
  refine PySem.SeqAt.eq_list_lengthsAt ⟨_, ho, hc, _, hd⟩ ⟨_, ho2, hc2, _, hd2⟩ ?_ (by omega) ⟨.bl _, H, I, rfl, q⟩
  rw [bne_iff_ne]
  simp at l1 l2 ⊢
  omega
theorem op_neLen (hu : X.A.units + 64 < cLine) : OpR X (compareOp .NotEq) (rNeLen X.K) := by
  intro pins s σ H x y v u Q I rx ry h
  obtain ⟨a, b, xs, ys, rfl, rfl, hx, hy, hne, q⟩ := h
  cases rx
  cases ry
  obtain ⟨its, rv, ⟨o, n, ho, hc, _, hd⟩, _⟩ := I.list hx
  obtain ⟨its2, rv2, ⟨o2, n2, ho2, hc2, _, hd2⟩, _⟩ := I.list hy
  have l1 := vals_len rv
  have l2 := vals_len rv2
  refine (PySem.SeqAt.RcNeAt.lists_lengths (l := _) (b := _) ⟨_, ho, hc, _, hd⟩ ⟨_, ho2, hc2, _, hd2⟩ ?_ (by omega)) _ _ _ _ ⟨.bl _, H, I, rfl, q⟩
  rw [bne_iff_ne]
  simp at l1 l2 ⊢
  omega
end
@[simp] def eqX (d e : D) : Option D := match d, e with
  | .lst xs, .lst ys => if xs.length = ys.length then eqD (.lst xs) (.lst ys) else some (.bl false)
  | d, e => eqD d e
@[simp] def neX (d e : D) : Option D := match d, e with
  | .lst xs, .lst ys => if xs.length = ys.length then neD (.lst xs) (.lst ys) else some (.bl true)
  | d, e => neD d e
theorem s_eqX {K : PySem.W.Frag} : OpS K (fun x y H Q => (rEq x y H Q ∨ rEqD K x y H Q) ∨ rEqLen K x y H Q) eqX := by
  intro O B ρ σ F H x y d e z Q rp hx hy hz k
  unfold eqX at hz
  split at hz
  · next xs ys =>
    split at hz
    · exact .inl (s_eq O B ρ σ F H x y _ _ z Q rp hx hy hz k)
    · next hne =>
      cases hz
      cases hx with
      | lst h1 h2 =>
        cases hy with
        | lst h3 h4 => exact .inr ⟨_, _, _, _, rfl, rfl, SqL.of (rp.sub _ _ h1), SqL.of (rp.sub _ _ h3), by rw [h2.length, h4.length]; exact hne, k _ F H (Ex.refl F) rp (.bl _)⟩
  · exact .inl (s_eq O B ρ σ F H x y d e z Q rp hx hy hz k)
theorem s_neX {K : PySem.W.Frag} : OpS K (fun x y H Q => (rNe x y H Q ∨ rNeD K x y H Q) ∨ rNeLen K x y H Q) neX := by
  intro O B ρ σ F H x y d e z Q rp hx hy hz k
  unfold neX at hz
  split at hz
  · next xs ys =>
    split at hz
    · exact .inl (s_ne O B ρ σ F H x y _ _ z Q rp hx hy hz k)
    · next hne =>
      cases hz
      cases hx with
      | lst h1 h2 =>
        cases hy with
        | lst h3 h4 => exact .inr ⟨_, _, _, _, rfl, rfl, SqL.of (rp.sub _ _ h1), SqL.of (rp.sub _ _ h3), by rw [h2.length, h4.length]; exact hne, k _ F H (Ex.refl F) rp (.bl _)⟩
  · exact .inl (s_ne O B ρ σ F H x y d e z Q rp hx hy hz k)
end DL


namespace PG
open PySem PySem.Spec PyProof.Rows L2 DL
def g_COPIES : D := .tup [.str (Str.ofString "new"), .str (Str.ofString "zero"), .str (Str.ofString "one")]
def g_DOUBLINGS : D := .tup [.tup [.str (Str.ofString "double"), .str (Str.ofString "new")], .tup [.str (Str.ofString "double"), .str (Str.ofString "one")], .tup [.str (Str.ofString "double"), .str (Str.ofString "zero")], .tup [.str (Str.ofString "repeat"), .int 0], .tup [.str (Str.ofString "repeat"), .int 1]]
def g_EITHER : D := .tup [.bl false, .bl true]
def g_EVENTS : D := .tup [.tup [.str (Str.ofString "bring"), .str (Str.ofString "new")], .tup [.str (Str.ofString "bring"), .str (Str.ofString "one")], .tup [.str (Str.ofString "bring"), .str (Str.ofString "zero")], .tup [.str (Str.ofString "drop"), .str (Str.ofString "new")], .tup [.str (Str.ofString "drop"), .str (Str.ofString "one")], .tup [.str (Str.ofString "drop"), .str (Str.ofString "zero")], .tup [.str (Str.ofString "hear"), .int 0], .tup [.str (Str.ofString "hear"), .int 1], .tup [.str (Str.ofString "miss"), .int 0], .tup [.str (Str.ofString "miss"), .int 1], .tup [.str (Str.ofString "send")]]
def g_HARMS : D := .tup [.tup [.tup [.int 0, .int 2, .int 2, .int 2], .tup [.int 1, .int 1, .int 1, .int 1]], .tup [.tup [.int 1, .int 1, .int 1, .int 3], .tup [.int 0, .int 2, .int 0, .int 2]]]
def g_KINDS : D := .tup [.str (Str.ofString "lost"), .str (Str.ofString "made"), .str (Str.ofString "twice")]
def g_WORDS : D := .tup [.str (Str.ofString "send"), .str (Str.ofString "drop"), .str (Str.ofString "bring"), .str (Str.ofString "miss"), .str (Str.ofString "hear")]
def g_WORD_LISTS : D := .tup [.tup [], .tup [.str (Str.ofString "clear")], .tup [.str (Str.ofString "clear"), .str (Str.ofString "forget")], .tup [.str (Str.ofString "clear"), .str (Str.ofString "forget"), .str (Str.ofString "turn")], .tup [.str (Str.ofString "clear"), .str (Str.ofString "turn")], .tup [.str (Str.ofString "forget")], .tup [.str (Str.ofString "forget"), .str (Str.ofString "turn")], .tup [.str (Str.ofString "turn")]]
def g_WRONG : D := .tup [.str (Str.ofString "lost"), .str (Str.ofString "made"), .str (Str.ofString "twice")]
abbrev N__wall : List Str := ["k"]
def b__wall_0 : DL.Env → Out := sNil
def p__wall_1 : DL.Env → Out := (whileL (fTru (fC (.bl true))) b__wall_0 100000)
def den__wall : DL.Env → Out := p__wall_1
def c__wall : List D → R0 := defD N__wall 1 false den__wall
abbrev N_is_whole : List Str := ["value"]
def den_is_whole : DL.Env → Out := (sRet (fAndV (fCl isiF (aCons (fVar 0) (aCons (fC (.opq (.ty "int"))) aNil))) (fNotV (fCl isiF (aCons (fVar 0) (aCons (fC (.opq (.ty "bool"))) aNil))))))
def c_is_whole : List D → R0 := defD N_is_whole 1 false den_is_whole
abbrev N_is_count : List Str := ["value"]
def den_is_count : DL.Env → Out := (sRet (fAndV (fCall c_is_whole (aCons (fVar 0) aNil)) (fOp geD (fVar 0) (fC (.int 0)))))
def c_is_count : List D → R0 := defD N_is_count 1 false den_is_count
abbrev N_is_bit : List Str := ["value"]
def den_is_bit : DL.Env → Out := (sRet (fAndV (fCall c_is_count (aCons (fVar 0) aNil)) (fOp ltD (fVar 0) (fC (.int 2)))))
def c_is_bit : List D → R0 := defD N_is_bit 1 false den_is_bit
abbrev N_is_tuple_of : List Str := ["value", "size"]
def den_is_tuple_of : DL.Env → Out := (sRet (fAndV (fCl isiF (aCons (fVar 0) (aCons (fC (.opq (.ty "tuple"))) aNil))) (fOp eqD (fCl lenF (aCons (fVar 0) aNil)) (fVar 1))))
def c_is_tuple_of : List D → R0 := defD N_is_tuple_of 2 false den_is_tuple_of
abbrev N_is_link : List Str := ["value", "number"]
def den_is_link : DL.Env → Out := (sRet (fAndV (fCall c_is_tuple_of (aCons (fVar 0) (aCons (fC (.int 4)) aNil))) (fCl allF (aCons (fLc [1] (fSeq (fVar 0)) (gN 1) tYesD (fAndV (fCall c_is_count (aCons (fVar 1) aNil)) (fOp gtD (fVar 1) (fC (.int 0))))) aNil))))
def c_is_link : List D → R0 := defD N_is_link 1 false den_is_link
abbrev N_is_listed : List Str := ["value", "events"]
def den_is_listed : DL.Env → Out := (sRet (fAndV (fOp inA (fVar 0) (fVar 1)) (fOrV (fCl isiF (aCons (fOp ixD (fVar 0) (fUn negD (fC (.int 1)))) (aCons (fC (.opq (.ty "str"))) aNil))) (fCall c_is_bit (aCons (fOp ixD (fVar 0) (fUn negD (fC (.int 1)))) aNil)))))
def c_is_listed : List D → R0 := defD N_is_listed 2 false den_is_listed
abbrev N_is_event : List Str := ["value"]
def den_is_event : DL.Env → Out := (sRet (fCall c_is_listed (aCons (fVar 0) (aCons (fC g_EVENTS) aNil))))
def c_is_event : List D → R0 := defD N_is_event 1 false den_is_event
abbrev N_is_run_of : List Str := ["value", "events", "event"]
def den_is_run_of : DL.Env → Out := (sRet (fAndV (fCl isiF (aCons (fVar 0) (aCons (fC (.opq (.ty "list"))) aNil))) (fCl allF (aCons (fLc [2] (fSeq (fVar 0)) (gN 2) tYesD (fCall c_is_listed (aCons (fVar 2) (aCons (fVar 1) aNil)))) aNil))))
def c_is_run_of : List D → R0 := defD N_is_run_of 2 false den_is_run_of
abbrev N_is_item_of : List Str := ["value", "events", "gone_through", "many"]
def den_is_item_of : DL.Env → Out := (sCons (sIf (fNot (fTru (fCall c_is_tuple_of (aCons (fVar 0) (aCons (fC (.int 2)) aNil))))) (sRet (fC (.bl false))) sNil) (sCons (sAsg (fVar 0) (gTupD 2 (gConsD (gN 2) (gConsD (gN 3) gNilD)))) (sRet (fAndV (fCall c_is_run_of (aCons (fVar 2) (aCons (fVar 1) aNil))) (fAndV (fOp gtD (fCl lenF (aCons (fVar 2) aNil)) (fC (.int 0))) (fCall c_is_count (aCons (fVar 3) aNil)))))))
def c_is_item_of : List D → R0 := defD N_is_item_of 2 false den_is_item_of
abbrev N_is_far_of : List Str := ["value", "events", "item"]
def den_is_far_of : DL.Env → Out := (sRet (fAndV (fCl isiF (aCons (fVar 0) (aCons (fC (.opq (.ty "list"))) aNil))) (fCl allF (aCons (fLc [2] (fSeq (fVar 0)) (gN 2) tYesD (fCall c_is_item_of (aCons (fVar 2) (aCons (fVar 1) aNil)))) aNil))))
def c_is_far_of : List D → R0 := defD N_is_far_of 2 false den_is_far_of
abbrev N_is_far_run : List Str := ["value"]
def den_is_far_run : DL.Env → Out := (sRet (fCall c_is_far_of (aCons (fVar 0) (aCons (fC g_EVENTS) aNil))))
def c_is_far_run : List D → R0 := defD N_is_far_run 1 false den_is_far_run
abbrev N_are_counts : List Str := ["value", "size", "most", "count"]
def den_are_counts : DL.Env → Out := (sRet (fAndV (fCall c_is_tuple_of (aCons (fVar 0) (aCons (fVar 1) aNil))) (fAndV (fCl allF (aCons (fLc [3] (fSeq (fVar 0)) (gN 3) tYesD (fCall c_is_count (aCons (fVar 3) aNil))) aNil)) (fOp leD (fCl sumF (aCons (fVar 0) aNil)) (fVar 2)))))
def c_are_counts : List D → R0 := defD N_are_counts 3 false den_are_counts
abbrev N_is_sender : List Str := ["link", "value"]
def den_is_sender : DL.Env → Out := (sRet (fAndV (fCall c_is_tuple_of (aCons (fVar 1) (aCons (fC (.int 2)) aNil))) (fAndV (fCall c_is_bit (aCons (fOp ixD (fVar 1) (fC (.int 0))) aNil)) (fAndV (fCall c_is_count (aCons (fOp ixD (fVar 1) (fC (.int 1))) aNil)) (fOp ltD (fOp ixD (fVar 1) (fC (.int 1))) (fOp ixD (fVar 0) (fC (.int 3))))))))
def c_is_sender : List D → R0 := defD N_is_sender 2 false den_is_sender
abbrev N_is_lot : List Str := ["link", "unlike", "value"]
def den_is_lot : DL.Env → Out := (sCons (sIf (fBl (fOp isN (fVar 2) (fC .non))) (sRet (fC (.bl true))) sNil) (sCons (sIf (fOr (fNot (fTru (fCall c_is_tuple_of (aCons (fVar 2) (aCons (fC (.int 2)) aNil))))) (fNot (fTru (fCall c_is_count (aCons (fOp ixD (fVar 2) (fC (.int 1))) aNil))))) (sRet (fC (.bl false))) sNil) (sRet (fAndV (fOrV (fOp eqD (fOp ixD (fVar 2) (fC (.int 0))) (fC (.str (Str.ofString "old")))) (fAndV (fOp eqD (fOp ixD (fVar 2) (fC (.int 0))) (fC (.str (Str.ofString "new")))) (fVar 1))) (fChain ltD ltD (fC (.int 0)) (fOp ixD (fVar 2) (fC (.int 1))) (fOp ixD (fVar 0) (fC (.int 2))))))))
def c_is_lot : List D → R0 := defD N_is_lot 3 false den_is_lot
abbrev N_is_receiver : List Str := ["link", "sent", "value", "bit", "lot", "done"]
def den_is_receiver : DL.Env → Out := (sCons (sIf (fNot (fTru (fCall c_is_tuple_of (aCons (fVar 2) (aCons (fC (.int 3)) aNil))))) (sRet (fC (.bl false))) sNil) (sCons (sAsg (fVar 2) (gTupD 3 (gConsD (gN 3) (gConsD (gN 4) (gConsD (gN 5) gNilD))))) (sRet (fAndV (fCall c_is_bit (aCons (fVar 3) aNil)) (fAndV (fCall c_is_lot (aCons (fVar 0) (aCons (fOp neD (fVar 3) (fVar 1)) (aCons (fVar 4) aNil)))) (fCl isiF (aCons (fVar 5) (aCons (fC (.opq (.ty "bool"))) aNil))))))))
def c_is_receiver : List D → R0 := defD N_is_receiver 3 false den_is_receiver
abbrev N_fits_link : List Str := ["link", "value", "sender", "receiver", "there", "back"]
def den_fits_link : DL.Env → Out := (sCons (sIf (fNot (fTru (fCall c_is_tuple_of (aCons (fVar 1) (aCons (fC (.int 4)) aNil))))) (sRet (fC (.bl false))) sNil) (sCons (sAsg (fVar 1) (gTupD 4 (gConsD (gN 2) (gConsD (gN 3) (gConsD (gN 4) (gConsD (gN 5) gNilD)))))) (sCons (sIf (fOr (fNot (fTru (fCall c_is_sender (aCons (fVar 0) (aCons (fVar 2) aNil))))) (fNot (fTru (fCall c_is_receiver (aCons (fVar 0) (aCons (fOp ixD (fVar 2) (fC (.int 0))) (aCons (fVar 3) aNil))))))) (sRet (fC (.bl false))) sNil) (sRet (fAndV (fCall c_are_counts (aCons (fVar 4) (aCons (fC (.int 3)) (aCons (fOp ixD (fVar 0) (fC (.int 0))) aNil)))) (fCall c_are_counts (aCons (fVar 5) (aCons (fC (.int 2)) (aCons (fOp ixD (fVar 0) (fC (.int 1))) aNil)))))))))
def c_fits_link : List D → R0 := defD N_fits_link 2 false den_fits_link
abbrev N_need_link : List Str := ["link"]
def den_need_link : DL.Env → Out := (sIf (fNot (fTru (fCall c_is_link (aCons (fVar 0) aNil)))) sBad sNil)
def c_need_link : List D → R0 := defD N_need_link 1 false den_need_link
abbrev N_need_contents : List Str := ["link", "contents"]
def den_need_contents : DL.Env → Out := (sCons (sExpr (fCall c_need_link (aCons (fVar 0) aNil))) (sIf (fNot (fTru (fCall c_fits_link (aCons (fVar 0) (aCons (fVar 1) aNil))))) sBad sNil))
def c_need_contents : List D → R0 := defD N_need_contents 2 false den_need_contents
abbrev N_need_bit : List Str := ["bit"]
def den_need_bit : DL.Env → Out := (sIf (fNot (fTru (fCall c_is_bit (aCons (fVar 0) aNil)))) sBad sNil)
def c_need_bit : List D → R0 := defD N_need_bit 1 false den_need_bit
abbrev N_is_sound : List Str := ["link"]
def den_is_sound : DL.Env → Out := (sCons (sExpr (fCall c_need_link (aCons (fVar 0) aNil))) (sRet (fAndV (fOp geD (fOp ixD (fVar 0) (fC (.int 2))) (fOp ixD (fVar 0) (fC (.int 0)))) (fOp geD (fOp ixD (fVar 0) (fC (.int 3))) (fOp ixD (fVar 0) (fC (.int 1)))))))
def c_is_sound : List D → R0 := defD N_is_sound 1 false den_is_sound
abbrev N_need_sound : List Str := ["link"]
def den_need_sound : DL.Env → Out := (sIf (fNot (fTru (fCall c_is_sound (aCons (fVar 0) aNil)))) sBad sNil)
def c_need_sound : List D → R0 := defD N_need_sound 1 false den_need_sound
abbrev N_empty : List Str := ["link", "bit"]
def den_empty : DL.Env → Out := (sCons (sExpr (fCall c_need_link (aCons (fVar 0) aNil))) (sCons (sExpr (fCall c_need_bit (aCons (fVar 1) aNil))) (sRet (fCl tupD (aCons (fCl tupD (aCons (fVar 1) (aCons (fC (.int 0)) aNil))) (aCons (fCl tupD (aCons (fOp subD (fC (.int 1)) (fVar 1)) (aCons (fC .non) (aCons (fC (.bl false)) aNil)))) (aCons (fCl tupD (aCons (fC (.int 0)) (aCons (fC (.int 0)) (aCons (fC (.int 0)) aNil)))) (aCons (fCl tupD (aCons (fC (.int 0)) (aCons (fC (.int 0)) aNil))) aNil))))))))
def c_empty : List D → R0 := defD N_empty 2 false den_empty
abbrev N_copy_of : List Str := ["bit"]
def den_copy_of : DL.Env → Out := (sRet (fOp ixD (fC g_COPIES) (fOp addD (fC (.int 1)) (fVar 0))))
def c_copy_of : List D → R0 := defD N_copy_of 1 false den_copy_of
abbrev N_borne_by : List Str := ["contents", "copy"]
def den_borne_by : DL.Env → Out := (sRet (fIf (fBl (fOp eqD (fVar 1) (fC (.str (Str.ofString "new"))))) (fOp ixD (fOp ixD (fVar 0) (fC (.int 0))) (fC (.int 0))) (fOp subD (fOp idxT (fC g_COPIES) (fVar 1)) (fC (.int 1)))))
def c_borne_by : List D → R0 := defD N_borne_by 2 false den_borne_by
abbrev N_lying : List Str := ["contents", "event", "named"]
def den_lying : DL.Env → Out := (sCons (sSet 2 (fOp ixD (fVar 1) (fC (.int 1)))) (sRet (fIf (fBl (fOp inA (fVar 2) (fC g_COPIES))) (fOp ixD (fOp ixD (fVar 0) (fC (.int 2))) (fOp idxT (fC g_COPIES) (fVar 2))) (fOp ixD (fOp ixD (fVar 0) (fC (.int 3))) (fVar 2)))))
def c_lying : List D → R0 := defD N_lying 2 false den_lying
abbrev N_can_happen : List Str := ["link", "contents", "event", "word"]
def den_can_happen : DL.Env → Out := (sCons (sSet 3 (fOp ixD (fVar 2) (fC (.int 0)))) (sCons (sIf (fAnd (fBl (fOp inA (fVar 3) (fCl tupD (aCons (fC (.str (Str.ofString "send"))) (aCons (fC (.str (Str.ofString "double"))) aNil))))) (fBl (fOp eqD (fCl sumF (aCons (fOp ixD (fVar 1) (fC (.int 2))) aNil)) (fOp ixD (fVar 0) (fC (.int 0)))))) (sRet (fC (.bl false))) sNil) (sCons (sIf (fAnd (fBl (fOp eqD (fVar 3) (fC (.str (Str.ofString "repeat"))))) (fBl (fOp eqD (fCl sumF (aCons (fOp ixD (fVar 1) (fC (.int 3))) aNil)) (fOp ixD (fVar 0) (fC (.int 1)))))) (sRet (fC (.bl false))) sNil) (sRet (fOrV (fOp eqD (fVar 3) (fC (.str (Str.ofString "send")))) (fOp gtD (fCall c_lying (aCons (fVar 1) (aCons (fVar 2) aNil))) (fC (.int 0))))))))
def c_can_happen : List D → R0 := defD N_can_happen 3 false den_can_happen
abbrev N_changed : List Str := ["counts", "place", "by"]
def den_changed : DL.Env → Out := (sRet (fOp addD (fOp addD (fSl (fVar 0) pNone (pSome (fVar 1))) (fCl tupD (aCons (fOp addD (fOp ixD (fVar 0) (fVar 1)) (fVar 2)) aNil))) (fSl (fVar 0) (pSome (fOp addD (fVar 1) (fC (.int 1)))) pNone)))
def c_changed : List D → R0 := defD N_changed 3 false den_changed
abbrev N_taken_in : List Str := ["link", "receiver", "bit", "sort", "own", "lot", "done", "many"]
def den_taken_in : DL.Env → Out := (sCons (sAsg (fVar 1) (gTupD 3 (gConsD (gN 4) (gConsD (gN 5) (gConsD (gN 6) gNilD))))) (sCons (sIf (fBl (fOp eqD (fVar 2) (fVar 4))) (sRet (fCl tupD (aCons (fVar 4) (aCons (fC .non) (aCons (fVar 6) aNil))))) sNil) (sCons (sSet 7 (fIf (fAnd (fBl (fOp notN (fVar 5) (fC .non))) (fBl (fOp eqD (fOp ixD (fVar 5) (fC (.int 0))) (fVar 3)))) (fOp addD (fOp ixD (fVar 5) (fC (.int 1))) (fC (.int 1))) (fC (.int 1)))) (sCons (sIf (fBl (fOp ltD (fVar 7) (fOp ixD (fVar 0) (fC (.int 2))))) (sRet (fCl tupD (aCons (fVar 4) (aCons (fCl tupD (aCons (fVar 3) (aCons (fVar 7) aNil))) (aCons (fVar 6) aNil))))) sNil) (sRet (fCl tupD (aCons (fVar 2) (aCons (fC .non) (aCons (fOrV (fVar 6) (fOp eqD (fVar 3) (fC (.str (Str.ofString "new"))))) aNil)))))))))
def c_taken_in : List D → R0 := defD N_taken_in 4 false den_taken_in
abbrev N_brought : List Str := ["link", "contents", "copy", "sender", "receiver", "there", "back", "bit"]
def den_brought : DL.Env → Out := (sCons (sAsg (fVar 1) (gTupD 4 (gConsD (gN 3) (gConsD (gN 4) (gConsD (gN 5) (gConsD (gN 6) gNilD)))))) (sCons (sSet 7 (fCall c_borne_by (aCons (fVar 1) (aCons (fVar 2) aNil)))) (sCons (sSet 5 (fCall c_changed (aCons (fVar 5) (aCons (fOp idxT (fC g_COPIES) (fVar 2)) (aCons (fUn negD (fC (.int 1))) aNil))))) (sCons (sSet 4 (fCall c_taken_in (aCons (fVar 0) (aCons (fVar 4) (aCons (fVar 7) (aCons (fIf (fBl (fOp eqD (fVar 2) (fC (.str (Str.ofString "new"))))) (fC (.str (Str.ofString "new"))) (fC (.str (Str.ofString "old")))) aNil)))))) (sCons (sIf (fAnd (fBl (fOp eqD (fOp ixD (fVar 4) (fC (.int 0))) (fVar 7))) (fBl (fOp ltD (fCl sumF (aCons (fVar 6) aNil)) (fOp ixD (fVar 0) (fC (.int 1)))))) (sSet 6 (fCall c_changed (aCons (fVar 6) (aCons (fVar 7) (aCons (fC (.int 1)) aNil))))) sNil) (sRet (fCl tupD (aCons (fVar 3) (aCons (fVar 4) (aCons (fVar 5) (aCons (fVar 6) aNil)))))))))))
def c_brought : List D → R0 := defD N_brought 3 false den_brought
abbrev N_begun_anew : List Str := ["receiver", "bit", "lot", "done"]
def den_begun_anew : DL.Env → Out := (sCons (sAsg (fVar 0) (gTupD 3 (gConsD (gN 1) (gConsD (gN 2) (gConsD (gN 3) gNilD))))) (sRet (fCl tupD (aCons (fVar 1) (aCons (fIf (fBl (fOp isN (fVar 2) (fC .non))) (fC .non) (fCl tupD (aCons (fC (.str (Str.ofString "old"))) (aCons (fOp ixD (fVar 2) (fC (.int 1))) aNil)))) (aCons (fC (.bl false)) aNil))))))
def c_begun_anew : List D → R0 := defD N_begun_anew 1 false den_begun_anew
abbrev N_grown_old : List Str := ["there", "bit"]
def den_grown_old : DL.Env → Out := (sRet (fCall c_changed (aCons (fOp addD (fCl tupD (aCons (fC (.int 0)) aNil)) (fSl (fVar 0) (pSome (fC (.int 1))) pNone)) (aCons (fOp addD (fC (.int 1)) (fVar 1)) (aCons (fOp ixD (fVar 0) (fC (.int 0))) aNil)))))
def c_grown_old : List D → R0 := defD N_grown_old 2 false den_grown_old
abbrev N_answered_by : List Str := ["link", "contents", "bit", "own", "heard", "receiver", "there", "back"]
def den_answered_by : DL.Env → Out := (sCons (sAsg (fVar 1) (gTupD 4 (gConsD (gTupD 2 (gConsD (gN 3) (gConsD (gN 4) gNilD))) (gConsD (gN 5) (gConsD (gN 6) (gConsD (gN 7) gNilD)))))) (sCons (sSet 7 (fCall c_changed (aCons (fVar 7) (aCons (fVar 2) (aCons (fUn negD (fC (.int 1))) aNil))))) (sCons (sIf (fBl (fOp neD (fVar 2) (fVar 3))) (sRet (fCl tupD (aCons (fCl tupD (aCons (fVar 3) (aCons (fVar 4) aNil))) (aCons (fVar 5) (aCons (fVar 6) (aCons (fVar 7) aNil)))))) sNil) (sCons (sIf (fBl (fOp ltD (fOp addD (fVar 4) (fC (.int 1))) (fOp ixD (fVar 0) (fC (.int 3))))) (sRet (fCl tupD (aCons (fCl tupD (aCons (fVar 3) (aCons (fOp addD (fVar 4) (fC (.int 1))) aNil))) (aCons (fVar 5) (aCons (fVar 6) (aCons (fVar 7) aNil)))))) sNil) (sRet (fCl tupD (aCons (fCl tupD (aCons (fOp subD (fC (.int 1)) (fVar 3)) (aCons (fC (.int 0)) aNil))) (aCons (fCall c_begun_anew (aCons (fVar 5) aNil)) (aCons (fCall c_grown_old (aCons (fVar 6) (aCons (fVar 3) aNil))) (aCons (fVar 7) aNil))))))))))
def c_answered_by : List D → R0 := defD N_answered_by 3 false den_answered_by
abbrev N_moved : List Str := ["link", "contents", "event", "word", "sender", "receiver", "there", "back", "by", "copy"]
def den_moved : DL.Env → Out := (sCons (sSet 3 (fOp ixD (fVar 2) (fC (.int 0)))) (sCons (sIf (fBl (fOp eqD (fVar 3) (fC (.str (Str.ofString "bring"))))) (sRet (fCall c_brought (aCons (fVar 0) (aCons (fVar 1) (aCons (fOp ixD (fVar 2) (fC (.int 1))) aNil))))) sNil) (sCons (sIf (fBl (fOp eqD (fVar 3) (fC (.str (Str.ofString "hear"))))) (sRet (fCall c_answered_by (aCons (fVar 0) (aCons (fVar 1) (aCons (fOp ixD (fVar 2) (fC (.int 1))) aNil))))) sNil) (sCons (sAsg (fVar 1) (gTupD 4 (gConsD (gN 4) (gConsD (gN 5) (gConsD (gN 6) (gConsD (gN 7) gNilD)))))) (sCons (sSet 8 (fIf (fBl (fOp inA (fVar 3) (fCl tupD (aCons (fC (.str (Str.ofString "send"))) (aCons (fC (.str (Str.ofString "double"))) (aCons (fC (.str (Str.ofString "repeat"))) aNil)))))) (fC (.int 1)) (fUn negD (fC (.int 1))))) (sCons (sIf (fBl (fOp inA (fVar 3) (fCl tupD (aCons (fC (.str (Str.ofString "miss"))) (aCons (fC (.str (Str.ofString "repeat"))) aNil))))) (sRet (fCl tupD (aCons (fVar 4) (aCons (fVar 5) (aCons (fVar 6) (aCons (fCall c_changed (aCons (fVar 7) (aCons (fOp ixD (fVar 2) (fC (.int 1))) (aCons (fVar 8) aNil)))) aNil)))))) sNil) (sCons (sSet 9 (fIf (fBl (fOp eqD (fVar 3) (fC (.str (Str.ofString "send"))))) (fC (.str (Str.ofString "new"))) (fOp ixD (fVar 2) (fC (.int 1))))) (sRet (fCl tupD (aCons (fVar 4) (aCons (fVar 5) (aCons (fCall c_changed (aCons (fVar 6) (aCons (fOp idxT (fC g_COPIES) (fVar 9)) (aCons (fVar 8) aNil)))) (aCons (fVar 7) aNil)))))))))))))
def c_moved : List D → R0 := defD N_moved 3 false den_moved
abbrev N_has_ended : List Str := ["ahead", "later"]
def den_has_ended : DL.Env → Out := (sRet (fOp neD (fOp ixD (fOp ixD (fVar 0) (fC (.int 0))) (fC (.int 0))) (fOp ixD (fOp ixD (fVar 1) (fC (.int 0))) (fC (.int 0)))))
def c_has_ended : List D → R0 := defD N_has_ended 2 false den_has_ended
abbrev N_has_handed : List Str := ["ahead", "later"]
def den_has_handed : DL.Env → Out := (sRet (fOp neD (fOp ixD (fOp ixD (fVar 0) (fC (.int 1))) (fC (.int 0))) (fOp ixD (fOp ixD (fVar 1) (fC (.int 1))) (fC (.int 0)))))
def c_has_handed : List D → R0 := defD N_has_handed 2 false den_has_handed
abbrev N_wrong_between : List Str := ["ahead", "event", "later", "done"]
def den_wrong_between : DL.Env → Out := (sCons (sSet 3 (fOp ixD (fOp ixD (fVar 0) (fC (.int 1))) (fC (.int 2)))) (sCons (sIf (fTru (fCall c_has_ended (aCons (fVar 0) (aCons (fVar 2) aNil)))) (sRet (fIf (fTru (fVar 3)) (fC .non) (fC (.str (Str.ofString "lost"))))) sNil) (sCons (sIf (fNot (fTru (fCall c_has_handed (aCons (fVar 0) (aCons (fVar 2) aNil))))) (sRet (fC .non)) sNil) (sCons (sIf (fBl (fOp neD (fOp ixD (fVar 1) (fC (.int 1))) (fC (.str (Str.ofString "new"))))) (sRet (fC (.str (Str.ofString "made")))) sNil) (sRet (fIf (fTru (fVar 3)) (fC (.str (Str.ofString "twice"))) (fC .non)))))))
def c_wrong_between : List D → R0 := defD N_wrong_between 3 false den_wrong_between
abbrev N_need_possible : List Str := ["link", "contents", "event"]
def den_need_possible : DL.Env → Out := (sCons (sExpr (fCall c_need_contents (aCons (fVar 0) (aCons (fVar 1) aNil)))) (sIf (fOr (fNot (fTru (fCall c_is_event (aCons (fVar 2) aNil)))) (fNot (fTru (fCall c_can_happen (aCons (fVar 0) (aCons (fVar 1) (aCons (fVar 2) aNil))))))) sBad sNil))
def c_need_possible : List D → R0 := defD N_need_possible 3 false den_need_possible
abbrev N_events_of : List Str := ["link", "contents", "event"]
def den_events_of : DL.Env → Out := (sRet (fLc [2] (fSeq (fC g_EVENTS)) (gN 2) (fTru (fCall c_can_happen (aCons (fVar 0) (aCons (fVar 1) (aCons (fVar 2) aNil))))) (fVar 2)))
def c_events_of : List D → R0 := defD N_events_of 2 true den_events_of
abbrev N_possible_events : List Str := ["link", "contents"]
def den_possible_events : DL.Env → Out := (sCons (sExpr (fCall c_need_contents (aCons (fVar 0) (aCons (fVar 1) aNil)))) (sRet (fCall c_events_of (aCons (fVar 0) (aCons (fVar 1) aNil)))))
def c_possible_events : List D → R0 := defD N_possible_events 2 true den_possible_events
abbrev N_wrong_step : List Str := ["link", "contents", "event"]
def den_wrong_step : DL.Env → Out := (sCons (sExpr (fCall c_need_possible (aCons (fVar 0) (aCons (fVar 1) (aCons (fVar 2) aNil))))) (sRet (fCall c_wrong_between (aCons (fVar 1) (aCons (fVar 2) (aCons (fCall c_moved (aCons (fVar 0) (aCons (fVar 1) (aCons (fVar 2) aNil)))) aNil))))))
def c_wrong_step : List D → R0 := defD N_wrong_step 3 false den_wrong_step
abbrev N_answers_of : List Str := ["contents", "bit", "heard"]
def den_answers_of : DL.Env → Out := (sCons (sAsg (fOp ixD (fVar 0) (fC (.int 0))) (gTupD 2 (gConsD (gN 1) (gConsD (gN 2) gNilD)))) (sRet (fOp addD (fVar 2) (fOp ixD (fOp ixD (fVar 0) (fC (.int 3))) (fVar 1)))))
def c_answers_of : List D → R0 := defD N_answers_of 1 false den_answers_of
abbrev N_old_of : List Str := ["contents", "bit", "lot", "_", "kept"]
def den_old_of : DL.Env → Out := (sCons (sAsg (fOp ixD (fVar 0) (fC (.int 1))) (gTupD 3 (gConsD (gN 1) (gConsD (gN 2) (gConsD (gN 3) gNilD))))) (sCons (sSet 4 (fIf (fAnd (fBl (fOp notN (fVar 2) (fC .non))) (fBl (fOp eqD (fOp ixD (fVar 2) (fC (.int 0))) (fC (.str (Str.ofString "old")))))) (fOp ixD (fVar 2) (fC (.int 1))) (fC (.int 0)))) (sRet (fOp addD (fOp ixD (fOp ixD (fVar 0) (fC (.int 2))) (fOp subD (fC (.int 2)) (fVar 1))) (fVar 4)))))
def c_old_of : List D → R0 := defD N_old_of 1 false den_old_of
abbrev N_signs_of : List Str := ["link", "contents", "even"]
def den_signs_of : DL.Env → Out := (sCons (sSet 2 (fOp eqD (fOp ixD (fOp ixD (fVar 1) (fC (.int 0))) (fC (.int 0))) (fOp ixD (fOp ixD (fVar 1) (fC (.int 1))) (fC (.int 0))))) (sRet (fCl tupD (aCons (fVar 2) (aCons (fOp ixD (fOp ixD (fVar 1) (fC (.int 1))) (fC (.int 2))) (aCons (fOp geD (fCall c_answers_of (aCons (fVar 1) aNil)) (fOp ixD (fVar 0) (fC (.int 3)))) (aCons (fOp geD (fCall c_old_of (aCons (fVar 1) aNil)) (fOp ixD (fVar 0) (fC (.int 2)))) aNil)))))))
def c_signs_of : List D → R0 := defD N_signs_of 2 false den_signs_of
abbrev N_harm_by : List Str := ["even", "done", "answers_suffice", "old_suffice"]
def den_harm_by : DL.Env → Out := (sRet (fOp ixA (fOp ixA (fOp ixA (fC g_HARMS) (fVar 0)) (fVar 1)) (fOp addA (fOp mulA (fC (.int 2)) (fVar 2)) (fVar 3))))
def c_harm_by : List D → R0 := defD N_harm_by 4 false den_harm_by
abbrev N_harm_of : List Str := ["link", "contents", "even", "done", "answers_suffice", "old_suffice"]
def den_harm_of : DL.Env → Out := (sCons (sAsg (fCall c_signs_of (aCons (fVar 0) (aCons (fVar 1) aNil))) (gTupD 4 (gConsD (gN 2) (gConsD (gN 3) (gConsD (gN 4) (gConsD (gN 5) gNilD)))))) (sRet (fCall c_harm_by (aCons (fVar 2) (aCons (fVar 3) (aCons (fVar 4) (aCons (fVar 5) aNil)))))))
def c_harm_of : List D → R0 := defD N_harm_of 2 false den_harm_of
abbrev N_need_sound_contents : List Str := ["link", "contents"]
def den_need_sound_contents : DL.Env → Out := (sCons (sExpr (fCall c_need_contents (aCons (fVar 0) (aCons (fVar 1) aNil)))) (sExpr (fCall c_need_sound (aCons (fVar 0) aNil))))
def c_need_sound_contents : List D → R0 := defD N_need_sound_contents 2 false den_need_sound_contents
abbrev N_signs : List Str := ["link", "contents"]
def den_signs : DL.Env → Out := (sCons (sExpr (fCall c_need_contents (aCons (fVar 0) (aCons (fVar 1) aNil)))) (sRet (fCall c_signs_of (aCons (fVar 0) (aCons (fVar 1) aNil)))))
def c_signs : List D → R0 := defD N_signs 2 false den_signs
abbrev N_harm : List Str := ["link", "contents"]
def den_harm : DL.Env → Out := (sCons (sExpr (fCall c_need_sound_contents (aCons (fVar 0) (aCons (fVar 1) aNil)))) (sRet (fCall c_harm_of (aCons (fVar 0) (aCons (fVar 1) aNil)))))
def c_harm : List D → R0 := defD N_harm 2 false den_harm
abbrev N_is_harmless : List Str := ["link", "contents"]
def den_is_harmless : DL.Env → Out := (sCons (sExpr (fCall c_need_sound_contents (aCons (fVar 0) (aCons (fVar 1) aNil)))) (sRet (fOp eqD (fCall c_harm_of (aCons (fVar 0) (aCons (fVar 1) aNil))) (fC (.int 0)))))
def c_is_harmless : List D → R0 := defD N_is_harmless 2 false den_is_harmless
abbrev N_harm_behind : List Str := ["link", "contents", "event"]
def den_harm_behind : DL.Env → Out := (sCons (sExpr (fCall c_need_possible (aCons (fVar 0) (aCons (fVar 1) (aCons (fVar 2) aNil))))) (sCons (sExpr (fCall c_need_sound (aCons (fVar 0) aNil))) (sRet (fCall c_harm_of (aCons (fVar 0) (aCons (fCall c_moved (aCons (fVar 0) (aCons (fVar 1) (aCons (fVar 2) aNil)))) aNil))))))
def c_harm_behind : List D → R0 := defD N_harm_behind 3 false den_harm_behind
abbrev N_is_wide : List Str := ["bracket"]
def den_is_wide : DL.Env → Out := (sRet (fOp gtD (fOp subD (fOp ixD (fVar 0) (fC (.int 2))) (fOp ixD (fVar 0) (fC (.int 0)))) (fC (.int 1))))
def c_is_wide : List D → R0 := defD N_is_wide 1 false den_is_wide
abbrev N_aim_of : List Str := ["bracket", "low", "under", "high", "over"]
def den_aim_of : DL.Env → Out := (sCons (sAsg (fVar 0) (gTupD 4 (gConsD (gN 1) (gConsD (gN 2) (gConsD (gN 3) (gConsD (gN 4) gNilD)))))) (sRet (fOp addD (fVar 1) (fCl maxF (aCons (fC (.int 1)) (aCons (fCl minF (aCons (fOp subD (fOp subD (fVar 3) (fVar 1)) (fC (.int 1))) (aCons (fOp fdivD (fOp mulD (fVar 2) (fOp subD (fVar 3) (fVar 1))) (fOp addD (fVar 2) (fVar 4))) aNil))) aNil))))))
def c_aim_of : List D → R0 := defD N_aim_of 1 false den_aim_of
abbrev N_eased : List Str := ["bracket", "low_stays", "low", "under", "high", "over"]
def den_eased : DL.Env → Out := (sCons (sAsg (fVar 0) (gTupD 4 (gConsD (gN 2) (gConsD (gN 3) (gConsD (gN 4) (gConsD (gN 5) gNilD)))))) (sRet (fIf (fTru (fVar 1)) (fCl tupD (aCons (fVar 2) (aCons (fOp fdivD (fVar 3) (fC (.int 2))) (aCons (fVar 4) (aCons (fVar 5) aNil))))) (fCl tupD (aCons (fVar 2) (aCons (fVar 3) (aCons (fVar 4) (aCons (fOp addD (fOp fdivD (fVar 5) (fC (.int 2))) (fC (.int 1))) aNil))))))))
def c_eased : List D → R0 := defD N_eased 2 false den_eased
abbrev N_bare_lots : List Str := ["link", "even"]
def den_bare_lots : DL.Env → Out := (sRet (fIf (fTru (fVar 1)) (fC (.int 1)) (fOp ixD (fVar 0) (fC (.int 2)))))
def c_bare_lots : List D → R0 := defD N_bare_lots 2 false den_bare_lots
abbrev N_of_pair : List Str := ["pair", "enough"]
def den_of_pair : DL.Env → Out := (sRet (fIf (fTru (fVar 1)) (fOp ixD (fVar 0) (fC (.int 0))) (fOp subD (fOp ixD (fVar 0) (fC (.int 1))) (fOp ixD (fVar 0) (fC (.int 0))))))
def c_of_pair : List D → R0 := defD N_of_pair 2 false den_of_pair
abbrev N_taken_apart : List Str := ["link", "contents", "sent", "heard", "own", "lot", "done", "there", "back", "place"]
def den_taken_apart : DL.Env → Out := (sCons (sAsg (fVar 1) (gTupD 4 (gConsD (gTupD 2 (gConsD (gN 2) (gConsD (gN 3) gNilD))) (gConsD (gTupD 3 (gConsD (gN 4) (gConsD (gN 5) (gConsD (gN 6) gNilD)))) (gConsD (gN 7) (gConsD (gN 8) gNilD)))))) (sCons (sSet 9 (fC (.int 0))) (sCons (sIf (fBl (fOp notN (fVar 5) (fC .non))) (sSet 9 (fIf (fBl (fOp eqD (fOp ixD (fVar 5) (fC (.int 0))) (fC (.str (Str.ofString "new"))))) (fOp ixD (fVar 5) (fC (.int 1))) (fOp subD (fOp addD (fCall c_bare_lots (aCons (fVar 0) (aCons (fOp eqD (fVar 2) (fVar 4)) aNil))) (fOp ixD (fVar 5) (fC (.int 1)))) (fC (.int 1))))) sNil) (sRet (fOp addD (fOp addD (fCl tupD (aCons (fVar 2) (aCons (fVar 3) (aCons (fVar 4) (aCons (fVar 9) (aCons (fIf (fTru (fVar 6)) (fC (.int 1)) (fC (.int 0))) aNil)))))) (fVar 7)) (fVar 8))))))
def c_taken_apart : List D → R0 := defD N_taken_apart 2 false den_taken_apart
abbrev N_put_together : List Str := ["link", "parts", "bare", "lot"]
def den_put_together : DL.Env → Out := (sCons (sSet 2 (fCall c_bare_lots (aCons (fVar 0) (aCons (fOp eqD (fOp ixD (fVar 1) (fC (.int 0))) (fOp ixD (fVar 1) (fC (.int 2)))) aNil)))) (sCons (sSet 3 (fC .non)) (sCons (sIf (fBl (fOp gtD (fOp ixD (fVar 1) (fC (.int 3))) (fC (.int 0)))) (sSet 3 (fIf (fBl (fOp ltD (fOp ixD (fVar 1) (fC (.int 3))) (fVar 2))) (fCl tupD (aCons (fC (.str (Str.ofString "new"))) (aCons (fOp ixD (fVar 1) (fC (.int 3))) aNil))) (fCl tupD (aCons (fC (.str (Str.ofString "old"))) (aCons (fOp addD (fOp subD (fOp ixD (fVar 1) (fC (.int 3))) (fVar 2)) (fC (.int 1))) aNil))))) sNil) (sRet (fCl tupD (aCons (fCl tupD (aCons (fOp ixD (fVar 1) (fC (.int 0))) (aCons (fOp ixD (fVar 1) (fC (.int 1))) aNil))) (aCons (fCl tupD (aCons (fOp ixD (fVar 1) (fC (.int 2))) (aCons (fVar 3) (aCons (fOp eqD (fOp ixD (fVar 1) (fC (.int 4))) (fC (.int 1))) aNil)))) (aCons (fSl (fVar 1) (pSome (fC (.int 5))) (pSome (fC (.int 8)))) (aCons (fSl (fVar 1) (pSome (fC (.int 8))) pNone) aNil)))))))))
def c_put_together : List D → R0 := defD N_put_together 2 false den_put_together
abbrev N_chances_by : List Str := ["wanted", "rows", "row", "many"]
def den_chances_by : DL.Env → Out := (sRet (fLc [1] (fSeq (fC g_HARMS)) (gN 1) tYesD (fLc [2] (fSeq (fVar 1)) (gN 2) tYesD (fLc [3] (fSeq (fVar 2)) (gN 3) tYesD (fOp inA (fVar 3) (fVar 0))))))
def c_chances_by : List D → R0 := defD N_chances_by 1 true den_chances_by
abbrev N_split : List Str := ["pair"]
def den_split : DL.Env → Out := (sRet (fCl tupD (aCons (fOp subD (fOp ixD (fVar 0) (fC (.int 1))) (fOp ixD (fVar 0) (fC (.int 0)))) (aCons (fOp ixD (fVar 0) (fC (.int 0))) aNil))))
def c_split : List D → R0 := defD N_split 1 false den_split
abbrev N_by_answers : List Str := ["row", "kept"]
def den_by_answers : DL.Env → Out := (sRet (fCl tupD (aCons (fOp addD (fOp mulD (fOp ixD (fVar 0) (fC (.int 0))) (fOp ixD (fVar 1) (fC (.int 0)))) (fOp mulD (fOp ixD (fVar 0) (fC (.int 1))) (fOp ixD (fVar 1) (fC (.int 1))))) (aCons (fOp addD (fOp mulD (fOp ixD (fVar 0) (fC (.int 2))) (fOp ixD (fVar 1) (fC (.int 0)))) (fOp mulD (fOp ixD (fVar 0) (fC (.int 3))) (fOp ixD (fVar 1) (fC (.int 1))))) aNil))))
def c_by_answers : List D → R0 := defD N_by_answers 2 false den_by_answers
abbrev N_by_old : List Str := ["row", "answered"]
def den_by_old : DL.Env → Out := (sRet (fCl tupD (aCons (fOp addD (fOp mulD (fOp ixD (fVar 0) (fC (.int 0))) (fOp ixD (fVar 1) (fC (.int 0)))) (fOp mulD (fOp ixD (fVar 0) (fC (.int 2))) (fOp ixD (fVar 1) (fC (.int 1))))) (aCons (fOp addD (fOp mulD (fOp ixD (fVar 0) (fC (.int 1))) (fOp ixD (fVar 1) (fC (.int 0)))) (fOp mulD (fOp ixD (fVar 0) (fC (.int 3))) (fOp ixD (fVar 1) (fC (.int 1))))) aNil))))
def c_by_old : List D → R0 := defD N_by_old 2 false den_by_old
abbrev N_added : List Str := ["rows", "one", "other"]
def den_added : DL.Env → Out := (sRet (fLc [1, 2] (fL zipD (aCons (fOp ixD (fVar 0) (fC (.int 0))) (aCons (fOp ixD (fVar 0) (fC (.int 1))) aNil))) (gTupD 2 (gConsD (gN 1) (gConsD (gN 2) gNilD))) tYesD (fOp addD (fVar 1) (fVar 2))))
def c_added : List D → R0 := defD N_added 1 true den_added
abbrev N_weighed : List Str := ["weights", "parts"]
def den_weighed : DL.Env → Out := (sRet (fOp addD (fOp mulD (fOp ixD (fVar 0) (fC (.int 0))) (fOp ixD (fVar 1) (fC (.int 0)))) (fOp mulD (fOp ixD (fVar 0) (fC (.int 1))) (fOp ixD (fVar 1) (fC (.int 1))))))
def c_weighed : List D → R0 := defD N_weighed 2 false den_weighed
abbrev N_bits_of : List Str := ["seen"]
def den_bits_of : DL.Env → Out := (sRet (fIf (fBl (fOp isN (fVar 0) (fC .non))) (fCl tupD (aCons (fC (.int 0)) (aCons (fC (.int 1)) aNil))) (fCl tupD (aCons (fOp ixD (fVar 0) (fC (.int 0))) aNil))))
def c_bits_of : List D → R0 := defD N_bits_of 1 false den_bits_of
abbrev N_back_shape : List Str := ["link", "seen", "sent"]
def den_back_shape : DL.Env → Out := (sRet (fIf (fBl (fOp isN (fVar 1) (fC .non))) (fCl tupD (aCons (fC (.int 1)) (aCons (fC (.int 2)) (aCons (fOp ixD (fVar 0) (fC (.int 1))) aNil)))) (fCl tupD (aCons (fC (.int 1)) (aCons (fC (.int 0)) (aCons (fOp ixD (fVar 1) (fVar 2)) aNil))))))
def c_back_shape : List D → R0 := defD N_back_shape 3 false den_back_shape
abbrev N_there_shape : List Str := ["link", "seen", "sent", "own"]
def den_there_shape : DL.Env → Out := (sCons (sIf (fBl (fOp isN (fVar 1) (fC .non))) (sRet (fCl tupD (aCons (fC (.int 1)) (aCons (fC (.int 3)) (aCons (fOp ixD (fVar 0) (fC (.int 0))) aNil))))) sNil) (sCons (sIf (fBl (fOp eqD (fVar 2) (fVar 3))) (sRet (fCl tupD (aCons (fOp addD (fOp ixD (fVar 1) (fVar 2)) (fC (.int 1))) (aCons (fC (.int 0)) (aCons (fOp ixD (fVar 1) (fOp subD (fC (.int 1)) (fVar 3))) aNil))))) sNil) (sRet (fCl tupD (aCons (fC (.int 1)) (aCons (fC (.int 1)) (aCons (fOp ixD (fVar 1) (fVar 2)) aNil)))))))
def c_there_shape : List D → R0 := defD N_there_shape 4 false den_there_shape
abbrev N_need_number : List Str := ["number"]
def den_need_number : DL.Env → Out := (sIf (fNot (fTru (fCall c_is_count (aCons (fVar 0) aNil)))) sBad sNil)
def c_need_number : List D → R0 := defD N_need_number 1 false den_need_number
abbrev N_marks_of : List Str := ["ahead", "event", "later", "wrong"]
def den_marks_of : DL.Env → Out := (sCons (sSet 3 (fCall c_wrong_between (aCons (fVar 0) (aCons (fVar 1) (aCons (fVar 2) aNil))))) (sCons (sIf (fTru (fCall c_has_ended (aCons (fVar 0) (aCons (fVar 2) aNil)))) (sRet (fCl lstD (aCons (fCl tupD (aCons (fC (.str (Str.ofString "turn"))) (aCons (fVar 3) aNil))) aNil))) sNil) (sCons (sIf (fTru (fCall c_has_handed (aCons (fVar 0) (aCons (fVar 2) aNil)))) (sRet (fCl lstD (aCons (fCl tupD (aCons (fIf (fBl (fOp eqD (fOp ixD (fVar 1) (fC (.int 1))) (fC (.str (Str.ofString "new"))))) (fC (.str (Str.ofString "new"))) (fC (.str (Str.ofString "old")))) (aCons (fVar 3) aNil))) aNil))) sNil) (sRet (fCl lstD aNil)))))
def c_marks_of : List D → R0 := defD N_marks_of 3 true den_marks_of
abbrev N_slacks_of : List Str := ["link", "ahead", "event", "later", "lot"]
def den_slacks_of : DL.Env → Out := (sCons (sSet 4 (fOp ixD (fOp ixD (fVar 3) (fC (.int 1))) (fC (.int 1)))) (sRet (fCl lstD (aCons (fIf (fBl (fOp eqD (fOp ixD (fVar 2) (fC (.int 0))) (fC (.str (Str.ofString "send"))))) (fC (.int 0)) (fOp subD (fCall c_lying (aCons (fVar 1) (aCons (fVar 2) aNil))) (fC (.int 1)))) (aCons (fOp subD (fOp ixD (fVar 0) (fC (.int 0))) (fCl sumF (aCons (fOp ixD (fVar 3) (fC (.int 2))) aNil))) (aCons (fOp subD (fOp ixD (fVar 0) (fC (.int 1))) (fCl sumF (aCons (fOp ixD (fVar 3) (fC (.int 3))) aNil))) (aCons (fOp subD (fOp subD (fOp ixD (fVar 0) (fC (.int 2))) (fC (.int 1))) (fIf (fBl (fOp isN (fVar 4) (fC .non))) (fC (.int 0)) (fOp ixD (fVar 4) (fC (.int 1))))) (aCons (fOp subD (fOp subD (fOp ixD (fVar 0) (fC (.int 3))) (fC (.int 1))) (fOp ixD (fOp ixD (fVar 3) (fC (.int 0))) (fC (.int 1)))) aNil))))))))
def c_slacks_of : List D → R0 := defD N_slacks_of 4 true den_slacks_of
abbrev N_case_of : List Str := ["link", "contents", "bit", "lot", "_"]
def den_case_of : DL.Env → Out := (sCons (sAsg (fOp ixD (fVar 1) (fC (.int 1))) (gTupD 3 (gConsD (gN 2) (gConsD (gN 3) (gConsD (gN 4) gNilD))))) (sRet (fCl tupD (aCons (fOp ixD (fOp ixD (fVar 1) (fC (.int 0))) (fC (.int 0))) (aCons (fVar 2) (aCons (fIf (fBl (fOp isN (fVar 3) (fC .non))) (fC .non) (fOp ixD (fVar 3) (fC (.int 0)))) (aCons (fOp eqD (fCl sumF (aCons (fOp ixD (fVar 1) (fC (.int 3))) aNil)) (fOp ixD (fVar 0) (fC (.int 1)))) aNil)))))))
def c_case_of : List D → R0 := defD N_case_of 2 false den_case_of
abbrev N_gone_once : List Str := ["link", "contents", "events", "marks", "cases", "slacks", "event", "later", "found"]
def p_gone_once_0 : DL.Env → Out := (sPar3 3 4 5 (aCons (fCl lstD aNil) (aCons (fCl lstD aNil) (aCons (fCl lstD aNil) aNil))))
def p_gone_once_1 : DL.Env → Out := (sIf (fNot (fTru (fCall c_can_happen (aCons (fVar 0) (aCons (fVar 1) (aCons (fVar 6) aNil)))))) (sRet (fC .non)) sNil)
def p_gone_once_2 : DL.Env → Out := (sSet 7 (fCall c_moved (aCons (fVar 0) (aCons (fVar 1) (aCons (fVar 6) aNil)))))
def p_gone_once_3 : DL.Env → Out := (sSet 8 (fCall c_marks_of (aCons (fVar 1) (aCons (fVar 6) (aCons (fVar 7) aNil)))))
def p_gone_once_4 : DL.Env → Out := (sApp 4 (fCl tupD (aCons (fCall c_case_of (aCons (fVar 0) (aCons (fVar 1) aNil))) (aCons (fVar 8) aNil))))
def p_gone_once_5 : DL.Env → Out := (sExt 5 (fCall c_slacks_of (aCons (fVar 0) (aCons (fVar 1) (aCons (fVar 6) (aCons (fVar 7) aNil))))))
def b_gone_once_6 : DL.Env → Out := (sCons p_gone_once_1 (sCons p_gone_once_2 (sCons p_gone_once_3 (sCons (sExt 3 (fVar 8)) (sCons p_gone_once_4 (sCons p_gone_once_5 (sSet 1 (fVar 7))))))))
def p_gone_once_7 : DL.Env → Out := (sFor (fSeq (fVar 2)) (gN 6) b_gone_once_6)
def p_gone_once_8 : DL.Env → Out := (sRet (fCl tupD (aCons (fVar 1) (aCons (fVar 3) (aCons (fVar 4) (aCons (fVar 5) aNil))))))
def den_gone_once : DL.Env → Out := (sCons p_gone_once_0 (sCons p_gone_once_7 p_gone_once_8))
def c_gone_once : List D → R0 := defD N_gone_once 3 false den_gone_once
abbrev N_few_enough : List Str := ["marks", "ends", "kind", "_"]
def den_few_enough : DL.Env → Out := (sCons (sSet 1 (fLc [2, 3] (fSeq (fVar 0)) (gTupD 2 (gConsD (gN 2) (gConsD (gN 3) gNilD))) (fBl (fOp eqD (fVar 2) (fC (.str (Str.ofString "turn"))))) (fVar 2))) (sRet (fAndV (fOp ltD (fCl lenF (aCons (fVar 1) aNil)) (fC (.int 2))) (fOp ltD (fOp subD (fCl lenF (aCons (fVar 0) aNil)) (fCl lenF (aCons (fVar 1) aNil))) (fC (.int 2))))))
def c_few_enough : List D → R0 := defD N_few_enough 1 false den_few_enough
abbrev N_times_alike : List Str := ["slacks", "left", "most", "ahead", "now"]
def p_times_alike_0 : DL.Env → Out := (sSet 2 (fCl minF (aCons (fVar 2) (aCons (fOp fdivD (fVar 4) (fOp subD (fVar 3) (fVar 4))) aNil))))
def b_times_alike_1 : DL.Env → Out := (sIf (fBl (fOp ltD (fVar 4) (fVar 3))) p_times_alike_0 sNil)
def p_times_alike_2 : DL.Env → Out := (sFor (fL zipD (aCons (fVar 0) (aCons (fVar 1) aNil))) (gTupD 2 (gConsD (gN 3) (gConsD (gN 4) gNilD))) b_times_alike_1)
def den_times_alike : DL.Env → Out := (sCons p_times_alike_2 (sRet (fVar 2)))
def c_times_alike : List D → R0 := defD N_times_alike 3 false den_times_alike
abbrev N_further : List Str := ["ahead", "later", "times"]
def den_further : DL.Env → Out := (sRet (fOp addD (fVar 1) (fOp mulD (fVar 2) (fOp subD (fVar 1) (fVar 0)))))
def c_further : List D → R0 := defD N_further 3 false den_further
abbrev N_moved_on : List Str := ["ahead", "later", "times", "bit", "heard", "own", "lot", "done", "there", "back", "one", "other"]
def den_moved_on : DL.Env → Out := (sCons (sAsg (fVar 1) (gTupD 4 (gConsD (gTupD 2 (gConsD (gN 3) (gConsD (gN 4) gNilD))) (gConsD (gTupD 3 (gConsD (gN 5) (gConsD (gN 6) (gConsD (gN 7) gNilD)))) (gConsD (gN 8) (gConsD (gN 9) gNilD)))))) (sCons (sIf (fBl (fOp notN (fVar 6) (fC .non))) (sSet 6 (fCl tupD (aCons (fOp ixD (fVar 6) (fC (.int 0))) (aCons (fCall c_further (aCons (fOp ixD (fOp ixD (fOp ixD (fVar 0) (fC (.int 1))) (fC (.int 1))) (fC (.int 1))) (aCons (fOp ixD (fVar 6) (fC (.int 1))) (aCons (fVar 2) aNil)))) aNil)))) sNil) (sRet (fCl tupD (aCons (fCl tupD (aCons (fVar 3) (aCons (fCall c_further (aCons (fOp ixD (fOp ixD (fVar 0) (fC (.int 0))) (fC (.int 1))) (aCons (fVar 4) (aCons (fVar 2) aNil)))) aNil))) (aCons (fCl tupD (aCons (fVar 5) (aCons (fVar 6) (aCons (fVar 7) aNil)))) (aCons (fCl tupF (aCons (fLc [10, 11] (fL zipD (aCons (fOp ixD (fVar 0) (fC (.int 2))) (aCons (fVar 8) aNil))) (gTupD 2 (gConsD (gN 10) (gConsD (gN 11) gNilD))) tYesD (fCall c_further (aCons (fVar 10) (aCons (fVar 11) (aCons (fVar 2) aNil))))) aNil)) (aCons (fCl tupF (aCons (fLc [10, 11] (fL zipD (aCons (fOp ixD (fVar 0) (fC (.int 3))) (aCons (fVar 9) aNil))) (gTupD 2 (gConsD (gN 10) (gConsD (gN 11) gNilD))) tYesD (fCall c_further (aCons (fVar 10) (aCons (fVar 11) (aCons (fVar 2) aNil))))) aNil)) aNil))))))))
def c_moved_on : List D → R0 := defD N_moved_on 3 false den_moved_on
abbrev N_item_gone : List Str := ["link", "contents", "events", "many", "marks", "cases", "slacks", "told", "later", "found", "met", "left", "times"]
def p_item_gone_0 : DL.Env → Out := (sPar3 4 5 6 (aCons (fCl lstD aNil) (aCons (fC .non) (aCons (fC .non) aNil))))
def p_item_gone_1 : DL.Env → Out := (sSet 7 (fCall c_gone_once (aCons (fVar 0) (aCons (fVar 1) (aCons (fVar 2) aNil)))))
def p_item_gone_2 : DL.Env → Out := (sIf (fBl (fOp isN (fVar 7) (fC .non))) (sRet (fC .non)) sNil)
def p_item_gone_3 : DL.Env → Out := (sAsg (fVar 7) (gTupD 4 (gConsD (gN 8) (gConsD (gN 9) (gConsD (gN 10) (gConsD (gN 11) gNilD))))))
def p_item_gone_4 : DL.Env → Out := (sIf (fLendT (fNot (fTru (fCall c_few_enough (aCons (fVar 4) aNil))))) (sRet (fC .non)) sNil)
def p_item_gone_5 : DL.Env → Out := (sPar3 1 5 6 (aCons (fVar 8) (aCons (fVar 10) (aCons (fVar 11) aNil))))
def p_item_gone_6 : DL.Env → Out := (sSet 12 (fCall c_times_alike (aCons (fVar 6) (aCons (fVar 11) (aCons (fVar 3) aNil)))))
def p_item_gone_7 : DL.Env → Out := (sPar3 1 3 5 (aCons (fCall c_moved_on (aCons (fVar 1) (aCons (fVar 8) (aCons (fVar 12) aNil)))) (aCons (fOp subD (fVar 3) (fVar 12)) (aCons (fC .non) aNil))))
def p_item_gone_8 : DL.Env → Out := (sIf (fBl (fOp neD (fVar 10) (fVar 5))) p_item_gone_5 (sCons p_item_gone_6 p_item_gone_7))
def b_item_gone_9 : DL.Env → Out := (sCons p_item_gone_1 (sCons p_item_gone_2 (sCons p_item_gone_3 (sCons (sExt 4 (fVar 9)) (sCons p_item_gone_4 (sCons (sAug 3 (· - ·) (fC (.int 1))) p_item_gone_8))))))
def p_item_gone_10 : DL.Env → Out := (whileL (fBl (fOp gtD (fVar 3) (fC (.int 0)))) b_item_gone_9 100000)
def den_item_gone : DL.Env → Out := (sCons p_item_gone_0 (sCons p_item_gone_10 (sRet (fCl tupD (aCons (fVar 1) (aCons (fVar 4) aNil))))))
def c_item_gone : List D → R0 := defD N_item_gone 4 false den_item_gone
abbrev N_far_gone : List Str := ["link", "contents", "far", "marks", "events", "many", "told"]
def p_far_gone_0 : DL.Env → Out := (sSet 6 (fCall c_item_gone (aCons (fVar 0) (aCons (fVar 1) (aCons (fVar 4) (aCons (fVar 5) aNil))))))
def p_far_gone_1 : DL.Env → Out := (sIf (fBl (fOp isN (fVar 6) (fC .non))) (sRet (fC .non)) sNil)
def b_far_gone_2 : DL.Env → Out := (sCons p_far_gone_0 (sCons p_far_gone_1 (sCons (sSet 1 (fOp ixD (fVar 6) (fC (.int 0)))) (sExt 3 (fOp ixD (fVar 6) (fC (.int 1)))))))
def p_far_gone_3 : DL.Env → Out := (sFor (fSeq (fVar 2)) (gTupD 2 (gConsD (gN 4) (gConsD (gN 5) gNilD))) b_far_gone_2)
def den_far_gone : DL.Env → Out := (sCons (sSetO 3 (fCl lstD aNil)) (sCons p_far_gone_3 (sRet (fCl tupD (aCons (fVar 1) (aCons (fVar 3) aNil))))))
def c_far_gone : List D → R0 := defD N_far_gone 3 false den_far_gone
abbrev N_wrongs_of : List Str := ["marks", "_", "wrong"]
def den_wrongs_of : DL.Env → Out := (sRet (fLc [1, 2] (fSeq (fVar 0)) (gTupD 2 (gConsD (gN 1) (gConsD (gN 2) gNilD))) (fBl (fOp notN (fVar 2) (fC .non))) (fVar 2)))
def c_wrongs_of : List D → R0 := defD N_wrongs_of 1 true den_wrongs_of
abbrev N_turns_of : List Str := ["marks", "kind", "_"]
def den_turns_of : DL.Env → Out := (sRet (fCl lenF (aCons (fLc [1, 2] (fSeq (fVar 0)) (gTupD 2 (gConsD (gN 1) (gConsD (gN 2) gNilD))) (fBl (fOp eqD (fVar 1) (fC (.str (Str.ofString "turn"))))) (fVar 1)) aNil)))
def c_turns_of : List D → R0 := defD N_turns_of 1 false den_turns_of
abbrev N_far_told : List Str := ["link", "contents", "far", "told"]
def den_far_told : DL.Env → Out := (sCons (sExpr (fCall c_need_contents (aCons (fVar 0) (aCons (fVar 1) aNil)))) (sCons (sSet 3 (fIf (fTru (fCall c_is_far_run (aCons (fVar 2) aNil))) (fCall c_far_gone (aCons (fVar 0) (aCons (fVar 1) (aCons (fVar 2) aNil)))) (fC .non))) (sCons (sIf (fBl (fOp isN (fVar 3) (fC .non))) sBad sNil) (sRet (fVar 3)))))
def c_far_told : List D → R0 := defD N_far_told 3 false den_far_told
abbrev N_far_after : List Str := ["link", "contents", "far"]
def den_far_after : DL.Env → Out := (sRet (fOp ixD (fCall c_far_told (aCons (fVar 0) (aCons (fVar 1) (aCons (fVar 2) aNil)))) (fC (.int 0))))
def c_far_after : List D → R0 := defD N_far_after 3 false den_far_after
abbrev N_far_wrong_steps : List Str := ["link", "contents", "far"]
def den_far_wrong_steps : DL.Env → Out := (sRet (fCall c_wrongs_of (aCons (fOp ixD (fCall c_far_told (aCons (fVar 0) (aCons (fVar 1) (aCons (fVar 2) aNil)))) (fC (.int 1))) aNil)))
def c_far_wrong_steps : List D → R0 := defD N_far_wrong_steps 3 true den_far_wrong_steps
abbrev N_often : List Str := ["events", "many"]
def den_often : DL.Env → Out := (sRet (fIf (fBl (fOp gtD (fVar 1) (fC (.int 0)))) (fCl lstD (aCons (fCl tupD (aCons (fVar 0) (aCons (fVar 1) aNil))) aNil)) (fCl lstD aNil)))
def c_often : List D → R0 := defD N_often 2 true den_often
abbrev N_sent_over : List Str := ["many"]
def den_sent_over : DL.Env → Out := (sRet (fCall c_often (aCons (fCl lstD (aCons (fCl tupD (aCons (fC (.str (Str.ofString "send"))) aNil)) (aCons (fCl tupD (aCons (fC (.str (Str.ofString "bring"))) (aCons (fC (.str (Str.ofString "new"))) aNil))) aNil))) (aCons (fVar 0) aNil))))
def c_sent_over : List D → R0 := defD N_sent_over 1 true den_sent_over
abbrev N_answered : List Str := ["bit", "many"]
def den_answered : DL.Env → Out := (sRet (fOp catD (fCall c_often (aCons (fCl lstD (aCons (fCl tupD (aCons (fC (.str (Str.ofString "hear"))) (aCons (fVar 0) aNil))) (aCons (fCl tupD (aCons (fC (.str (Str.ofString "send"))) aNil)) (aCons (fCl tupD (aCons (fC (.str (Str.ofString "bring"))) (aCons (fC (.str (Str.ofString "new"))) aNil))) aNil)))) (aCons (fOp subD (fVar 1) (fC (.int 1))) aNil))) (fCall c_often (aCons (fCl lstD (aCons (fCl tupD (aCons (fC (.str (Str.ofString "hear"))) (aCons (fVar 0) aNil))) aNil)) (aCons (fC (.int 1)) aNil)))))
def c_answered : List D → R0 := defD N_answered 2 true den_answered
abbrev N_right_turn : List Str := ["link", "bit"]
def den_right_turn : DL.Env → Out := (sRet (fOp catD (fCall c_sent_over (aCons (fOp ixD (fVar 0) (fC (.int 2))) aNil)) (fCall c_answered (aCons (fVar 1) (aCons (fOp ixD (fVar 0) (fC (.int 3))) aNil)))))
def c_right_turn : List D → R0 := defD N_right_turn 2 true den_right_turn
abbrev N_taken_out : List Str := ["contents", "there", "back", "copy", "many", "bit", "part", "item"]
def den_taken_out : DL.Env → Out := (sCons (sSet 1 (fLc [3, 4] (fL zipD (aCons (fC g_COPIES) (aCons (fOp ixD (fVar 0) (fC (.int 2))) aNil))) (gTupD 2 (gConsD (gN 3) (gConsD (gN 4) gNilD))) tYesD (fCall c_often (aCons (fCl lstD (aCons (fCl tupD (aCons (fC (.str (Str.ofString "drop"))) (aCons (fVar 3) aNil))) aNil)) (aCons (fVar 4) aNil))))) (sCons (sSet 2 (fLc [5, 4] (fL enumD (aCons (fOp ixD (fVar 0) (fC (.int 3))) aNil)) (gTupD 2 (gConsD (gN 5) (gConsD (gN 4) gNilD))) tYesD (fCall c_often (aCons (fCl lstD (aCons (fCl tupD (aCons (fC (.str (Str.ofString "miss"))) (aCons (fVar 5) aNil))) aNil)) (aCons (fVar 4) aNil))))) (sRet (fLc2 [6, 7] [7] (fSeq (fOp addD (fVar 1) (fVar 2))) (gN 6) tYesD (fSeq (fVar 6)) (gN 7) tYesD (fVar 7)))))
def c_taken_out : List D → R0 := defD N_taken_out 1 true den_taken_out
abbrev N_to_empty : List Str := ["link", "contents", "bit", "heard", "own", "lot", "_", "left", "kept"]
def den_to_empty : DL.Env → Out := (sCons (sAsg (fVar 1) (gTupD 4 (gConsD (gTupD 2 (gConsD (gN 2) (gConsD (gN 3) gNilD))) (gConsD (gTupD 3 (gConsD (gN 4) (gConsD (gN 5) (gConsD (gN 6) gNilD)))) (gConsD (gN 6) (gConsD (gN 6) gNilD)))))) (sCons (sSet 7 (fOp subD (fOp ixD (fVar 0) (fC (.int 3))) (fVar 3))) (sCons (sIf (fBl (fOp eqD (fVar 2) (fVar 4))) (sRet (fOp catD (fCall c_taken_out (aCons (fVar 1) aNil)) (fCall c_often (aCons (fCl lstD (aCons (fCl tupD (aCons (fC (.str (Str.ofString "send"))) aNil)) (aCons (fCl tupD (aCons (fC (.str (Str.ofString "bring"))) (aCons (fC (.str (Str.ofString "new"))) aNil))) (aCons (fCl tupD (aCons (fC (.str (Str.ofString "hear"))) (aCons (fVar 2) aNil))) aNil)))) (aCons (fVar 7) aNil))))) sNil) (sCons (sSet 8 (fIf (fAnd (fBl (fOp notN (fVar 5) (fC .non))) (fBl (fOp eqD (fOp ixD (fVar 5) (fC (.int 0))) (fC (.str (Str.ofString "new")))))) (fOp ixD (fVar 5) (fC (.int 1))) (fC (.int 0)))) (sRet (fOp catD (fOp addD (fCall c_taken_out (aCons (fVar 1) aNil)) (fCall c_sent_over (aCons (fOp subD (fOp ixD (fVar 0) (fC (.int 2))) (fVar 8)) aNil))) (fCall c_answered (aCons (fVar 2) (aCons (fVar 7) aNil)))))))))
def c_to_empty : List D → R0 := defD N_to_empty 2 true den_to_empty
abbrev N_lap_of_copies : List Str := ["link", "bit", "many", "other"]
def den_lap_of_copies : DL.Env → Out := (sCons (sPar2 2 3 (aCons (fOp ixD (fVar 0) (fC (.int 2))) (aCons (fOp subD (fC (.int 1)) (fVar 1)) aNil))) (sRet (fOp catD (fOp addD (fOp addD (fOp addD (fOp addD (fOp addD (fOp addD (fOp addD (fOp addD (fOp addD (fOp addD (fCall c_often (aCons (fCl lstD (aCons (fCl tupD (aCons (fC (.str (Str.ofString "send"))) aNil)) aNil)) (aCons (fVar 2) aNil))) (fCall c_right_turn (aCons (fVar 0) (aCons (fVar 1) aNil)))) (fCall c_sent_over (aCons (fVar 2) aNil))) (fCall c_often (aCons (fCl lstD (aCons (fCl tupD (aCons (fC (.str (Str.ofString "miss"))) (aCons (fVar 3) aNil))) aNil)) (aCons (fC (.int 1)) aNil)))) (fCall c_often (aCons (fCl lstD (aCons (fCl tupD (aCons (fC (.str (Str.ofString "bring"))) (aCons (fCall c_copy_of (aCons (fVar 1) aNil)) aNil))) aNil)) (aCons (fVar 2) aNil)))) (fCall c_often (aCons (fCl lstD (aCons (fCl tupD (aCons (fC (.str (Str.ofString "miss"))) (aCons (fVar 1) aNil))) aNil)) (aCons (fC (.int 1)) aNil)))) (fCall c_sent_over (aCons (fVar 2) aNil))) (fCall c_often (aCons (fCl lstD (aCons (fCl tupD (aCons (fC (.str (Str.ofString "send"))) aNil)) aNil)) (aCons (fVar 2) aNil)))) (fCall c_answered (aCons (fVar 3) (aCons (fOp ixD (fVar 0) (fC (.int 3))) aNil)))) (fCall c_right_turn (aCons (fVar 0) (aCons (fVar 1) aNil)))) (fCall c_often (aCons (fCl lstD (aCons (fCl tupD (aCons (fC (.str (Str.ofString "bring"))) (aCons (fCall c_copy_of (aCons (fVar 3) aNil)) aNil))) aNil)) (aCons (fVar 2) aNil)))) (fCall c_answered (aCons (fVar 3) (aCons (fOp ixD (fVar 0) (fC (.int 3))) aNil))))))
def c_lap_of_copies : List D → R0 := defD N_lap_of_copies 2 true den_lap_of_copies
abbrev N_lap_of_answers : List Str := ["link", "bit", "many", "other"]
def den_lap_of_answers : DL.Env → Out := (sCons (sPar2 2 3 (aCons (fOp ixD (fVar 0) (fC (.int 2))) (aCons (fOp subD (fC (.int 1)) (fVar 1)) aNil))) (sRet (fOp catD (fOp addD (fOp addD (fOp addD (fOp addD (fOp addD (fOp addD (fOp addD (fCall c_sent_over (aCons (fOp addD (fVar 2) (fOp ixD (fVar 0) (fC (.int 3)))) aNil)) (fCall c_answered (aCons (fVar 1) (aCons (fOp ixD (fVar 0) (fC (.int 3))) aNil)))) (fCall c_right_turn (aCons (fVar 0) (aCons (fVar 3) aNil)))) (fCall c_sent_over (aCons (fOp subD (fVar 2) (fC (.int 1))) aNil))) (fCall c_often (aCons (fCl lstD (aCons (fCl tupD (aCons (fC (.str (Str.ofString "send"))) aNil)) aNil)) (aCons (fC (.int 1)) aNil)))) (fCall c_often (aCons (fCl lstD (aCons (fCl tupD (aCons (fC (.str (Str.ofString "hear"))) (aCons (fVar 1) aNil))) aNil)) (aCons (fOp ixD (fVar 0) (fC (.int 3))) aNil)))) (fCall c_often (aCons (fCl lstD (aCons (fCl tupD (aCons (fC (.str (Str.ofString "bring"))) (aCons (fCall c_copy_of (aCons (fVar 1) aNil)) aNil))) aNil)) (aCons (fC (.int 1)) aNil)))) (fCall c_often (aCons (fCl lstD (aCons (fCl tupD (aCons (fC (.str (Str.ofString "miss"))) (aCons (fVar 1) aNil))) aNil)) (aCons (fC (.int 1)) aNil)))) (fCall c_right_turn (aCons (fVar 0) (aCons (fVar 3) aNil))))))
def c_lap_of_answers : List D → R0 := defD N_lap_of_answers 2 true den_lap_of_answers
abbrev N_endless_from : List Str := ["link", "contents", "bit", "lap"]
def den_endless_from : DL.Env → Out := (sCons (sSet 2 (fOp subD (fC (.int 1)) (fOp ixD (fOp ixD (fVar 1) (fC (.int 0))) (fC (.int 0))))) (sCons (sSet 3 (fIf (fBl (fOp ltD (fOp ixD (fVar 0) (fC (.int 2))) (fOp ixD (fVar 0) (fC (.int 0))))) (fCall c_lap_of_copies (aCons (fVar 0) (aCons (fVar 2) aNil))) (fCall c_lap_of_answers (aCons (fVar 0) (aCons (fVar 2) aNil))))) (sRet (fCl tupD (aCons (fCall c_to_empty (aCons (fVar 0) (aCons (fVar 1) aNil))) (aCons (fVar 3) aNil))))))
def c_endless_from : List D → R0 := defD N_endless_from 2 false den_endless_from
abbrev N_goes_on : List Str := ["link", "contents", "ahead", "lap", "told", "again"]
def den_goes_on : DL.Env → Out := (sCons (sSet 4 (fCall c_far_gone (aCons (fVar 0) (aCons (fVar 1) (aCons (fVar 2) aNil))))) (sCons (sIf (fBl (fOp isN (fVar 4) (fC .non))) (sRet (fC (.bl false))) sNil) (sCons (sSet 5 (fCall c_far_gone (aCons (fVar 0) (aCons (fOp ixD (fVar 4) (fC (.int 0))) (aCons (fVar 3) aNil))))) (sRet (fAndV (fOp notN (fVar 5) (fC .non)) (fAndV (fOp eqD (fOp ixD (fVar 5) (fC (.int 0))) (fOp ixD (fVar 4) (fC (.int 0)))) (fOp gtD (fCl lenF (aCons (fCall c_wrongs_of (aCons (fOp ixD (fVar 5) (fC (.int 1))) aNil)) aNil)) (fC (.int 0)))))))))
def c_goes_on : List D → R0 := defD N_goes_on 4 false den_goes_on
abbrev N_is_endless : List Str := ["link", "contents", "value"]
def den_is_endless : DL.Env → Out := (sCons (sExpr (fCall c_need_contents (aCons (fVar 0) (aCons (fVar 1) aNil)))) (sCons (sIf (fOr (fNot (fTru (fCall c_is_tuple_of (aCons (fVar 2) (aCons (fC (.int 2)) aNil))))) (fOr (fNot (fTru (fCall c_is_far_run (aCons (fOp ixD (fVar 2) (fC (.int 0))) aNil)))) (fNot (fTru (fCall c_is_far_run (aCons (fOp ixD (fVar 2) (fC (.int 1))) aNil)))))) (sRet (fC (.bl false))) sNil) (sRet (fCall c_goes_on (aCons (fVar 0) (aCons (fVar 1) (aCons (fOp ixD (fVar 2) (fC (.int 0))) (aCons (fOp ixD (fVar 2) (fC (.int 1))) aNil))))))))
def c_is_endless : List D → R0 := defD N_is_endless 3 false den_is_endless
abbrev N_endless_run : List Str := ["link", "contents"]
def den_endless_run : DL.Env → Out := (sCons (sExpr (fCall c_need_contents (aCons (fVar 0) (aCons (fVar 1) aNil)))) (sRet (fIf (fTru (fCall c_is_sound (aCons (fVar 0) aNil))) (fC .non) (fCall c_endless_from (aCons (fVar 0) (aCons (fVar 1) aNil))))))
def c_endless_run : List D → R0 := defD N_endless_run 2 false den_endless_run
abbrev N_in_lot : List Str := ["contents", "sort", "lot"]
def den_in_lot : DL.Env → Out := (sCons (sSet 2 (fOp ixD (fOp ixD (fVar 0) (fC (.int 1))) (fC (.int 1)))) (sRet (fIf (fAnd (fBl (fOp notN (fVar 2) (fC .non))) (fBl (fOp eqD (fOp ixD (fVar 2) (fC (.int 0))) (fVar 1)))) (fOp ixD (fVar 2) (fC (.int 1))) (fC (.int 0)))))
def c_in_lot : List D → R0 := defD N_in_lot 2 false den_in_lot
abbrev N_to_made : List Str := ["link", "contents", "bring"]
def den_to_made : DL.Env → Out := (sCons (sSet 2 (fCl tupD (aCons (fC (.str (Str.ofString "bring"))) (aCons (fCall c_copy_of (aCons (fOp subD (fC (.int 1)) (fOp ixD (fOp ixD (fVar 1) (fC (.int 1))) (fC (.int 0)))) aNil)) aNil)))) (sRet (fCl lstD (aCons (fCl tupD (aCons (fCl lstD (aCons (fVar 2) aNil)) (aCons (fOp subD (fOp ixD (fVar 0) (fC (.int 2))) (fCall c_in_lot (aCons (fVar 1) (aCons (fC (.str (Str.ofString "old"))) aNil)))) aNil))) aNil))))
def c_to_made : List D → R0 := defD N_to_made 2 true den_to_made
abbrev N_once : List Str := ["events"]
def den_once : DL.Env → Out := (sRet (fIf (fTru (fVar 0)) (fCl lstD (aCons (fCl tupD (aCons (fVar 0) (aCons (fC (.int 1)) aNil))) aNil)) (fCl lstD aNil)))
def c_once : List D → R0 := defD N_once 1 true den_once
abbrev N_making_room : List Str := ["link", "contents", "copy", "many"]
def den_making_room : DL.Env → Out := (sCons (sIf (fBl (fOp ltD (fCl sumF (aCons (fOp ixD (fVar 1) (fC (.int 2))) aNil)) (fOp ixD (fVar 0) (fC (.int 0))))) (sRet (fCl lstD aNil)) sNil) (sRet (fCl lstD (aCons (fCl tupD (aCons (fC (.str (Str.ofString "drop"))) (aCons (fOp ixD (fLc [2, 3] (fL zipD (aCons (fC g_COPIES) (aCons (fOp ixD (fVar 1) (fC (.int 2))) aNil))) (gTupD 2 (gConsD (gN 2) (gConsD (gN 3) gNilD))) (fBl (fOp gtD (fVar 3) (fC (.int 0)))) (fVar 2)) (fC (.int 0))) aNil))) aNil))))
def c_making_room : List D → R0 := defD N_making_room 2 true den_making_room
abbrev N_to_handed : List Str := ["link", "contents", "many"]
def den_to_handed : DL.Env → Out := (sCons (sSet 2 (fOp subD (fOp ixD (fVar 0) (fC (.int 2))) (fCall c_in_lot (aCons (fVar 1) (aCons (fC (.str (Str.ofString "new"))) aNil))))) (sRet (fOp catD (fCall c_once (aCons (fCall c_making_room (aCons (fVar 0) (aCons (fVar 1) aNil))) aNil)) (fCl lstD (aCons (fCl tupD (aCons (fCl lstD (aCons (fCl tupD (aCons (fC (.str (Str.ofString "send"))) aNil)) (aCons (fCl tupD (aCons (fC (.str (Str.ofString "bring"))) (aCons (fC (.str (Str.ofString "new"))) aNil))) aNil))) (aCons (fVar 2) aNil))) aNil)))))
def c_to_handed : List D → R0 := defD N_to_handed 2 true den_to_handed
abbrev N_to_ended : List Str := ["link", "contents", "bit", "heard", "ahead"]
def den_to_ended : DL.Env → Out := (sCons (sAsg (fOp ixD (fVar 1) (fC (.int 0))) (gTupD 2 (gConsD (gN 2) (gConsD (gN 3) gNilD)))) (sCons (sSetO 4 (fCall c_making_room (aCons (fVar 0) (aCons (fVar 1) aNil)))) (sCons (sIf (fBl (fOp eqD (fOp ixD (fOp ixD (fVar 1) (fC (.int 3))) (fOp subD (fC (.int 1)) (fVar 2))) (fOp ixD (fVar 0) (fC (.int 1))))) (sApp 4 (fCl tupD (aCons (fC (.str (Str.ofString "miss"))) (aCons (fOp subD (fC (.int 1)) (fVar 2)) aNil)))) sNil) (sRet (fOp catD (fCall c_once (aCons (fVar 4) aNil)) (fCl lstD (aCons (fCl tupD (aCons (fCl lstD (aCons (fCl tupD (aCons (fC (.str (Str.ofString "send"))) aNil)) (aCons (fCl tupD (aCons (fC (.str (Str.ofString "bring"))) (aCons (fC (.str (Str.ofString "new"))) aNil))) (aCons (fCl tupD (aCons (fC (.str (Str.ofString "hear"))) (aCons (fVar 2) aNil))) aNil)))) (aCons (fOp subD (fOp ixD (fVar 0) (fC (.int 3))) (fVar 3)) aNil))) aNil)))))))
def c_to_ended : List D → R0 := defD N_to_ended 2 true den_to_ended
abbrev N_next_wrong : List Str := ["link", "contents", "even", "done", "answers_suffice", "_", "bit", "heard"]
def den_next_wrong : DL.Env → Out := (sCons (sAsg (fCall c_signs_of (aCons (fVar 0) (aCons (fVar 1) aNil))) (gTupD 4 (gConsD (gN 2) (gConsD (gN 3) (gConsD (gN 4) (gConsD (gN 5) gNilD)))))) (sCons (sIf (fAnd (fTru (fVar 3)) (fNot (fTru (fVar 2)))) (sRet (fCall c_to_handed (aCons (fVar 0) (aCons (fVar 1) aNil)))) sNil) (sCons (sIf (fAnd (fNot (fTru (fVar 3))) (fTru (fVar 4))) (sCons (sAsg (fOp ixD (fVar 1) (fC (.int 0))) (gTupD 2 (gConsD (gN 6) (gConsD (gN 7) gNilD)))) (sRet (fCl lstD (aCons (fCl tupD (aCons (fCl lstD (aCons (fCl tupD (aCons (fC (.str (Str.ofString "hear"))) (aCons (fVar 6) aNil))) aNil)) (aCons (fOp subD (fOp ixD (fVar 0) (fC (.int 3))) (fVar 7)) aNil))) aNil)))) sNil) (sCons (sIf (fAnd (fTru (fVar 2)) (fNot (fTru (fVar 3)))) (sRet (fCall c_to_ended (aCons (fVar 0) (aCons (fVar 1) aNil)))) sNil) (sRet (fCall c_to_made (aCons (fVar 0) (aCons (fVar 1) aNil))))))))
def c_next_wrong : List D → R0 := defD N_next_wrong 2 true den_next_wrong
abbrev N_worst_of : List Str := ["link", "contents", "far", "part"]
def p_worst_of_0 : DL.Env → Out := (sSet 3 (fCall c_next_wrong (aCons (fVar 0) (aCons (fVar 1) aNil))))
def p_worst_of_1 : DL.Env → Out := (sSet 1 (fOp ixD (fCall c_far_gone (aCons (fVar 0) (aCons (fVar 1) (aCons (fVar 3) aNil)))) (fC (.int 0))))
def b_worst_of_2 : DL.Env → Out := (sCons p_worst_of_0 (sCons (sExt 2 (fVar 3)) p_worst_of_1))
def p_worst_of_3 : DL.Env → Out := (whileL (fBl (fOp gtD (fCall c_harm_of (aCons (fVar 0) (aCons (fVar 1) aNil))) (fC (.int 0)))) b_worst_of_2 100000)
def den_worst_of : DL.Env → Out := (sCons (sSetO 2 (fCl lstD aNil)) (sCons p_worst_of_3 (sRetV 2)))
def c_worst_of : List D → R0 := defD N_worst_of 2 true den_worst_of
abbrev N_worst_run : List Str := ["link", "contents"]
def den_worst_run : DL.Env → Out := (sCons (sExpr (fCall c_need_sound_contents (aCons (fVar 0) (aCons (fVar 1) aNil)))) (sRet (fCall c_worst_of (aCons (fVar 0) (aCons (fVar 1) aNil)))))
def c_worst_run : List D → R0 := defD N_worst_run 2 true den_worst_run
abbrev N_lot_kept : List Str := ["link", "contents", "bringing"]
def den_lot_kept : DL.Env → Out := (sCons (sSet 2 (fCall c_often (aCons (fCl lstD (aCons (fCl tupD (aCons (fC (.str (Str.ofString "send"))) aNil)) (aCons (fCl tupD (aCons (fC (.str (Str.ofString "bring"))) (aCons (fC (.str (Str.ofString "new"))) aNil))) aNil))) (aCons (fOp subD (fOp subD (fOp ixD (fVar 0) (fC (.int 2))) (fC (.int 1))) (fCall c_in_lot (aCons (fVar 1) (aCons (fC (.str (Str.ofString "new"))) aNil)))) aNil)))) (sRet (fOp catD (fOp addD (fCall c_once (aCons (fCall c_making_room (aCons (fVar 0) (aCons (fVar 1) aNil))) aNil)) (fVar 2)) (fCl lstD (aCons (fCl tupD (aCons (fCl lstD (aCons (fCl tupD (aCons (fC (.str (Str.ofString "send"))) aNil)) aNil)) (aCons (fC (.int 1)) aNil))) aNil)))))
def c_lot_kept : List D → R0 := defD N_lot_kept 2 true den_lot_kept
abbrev N_next_part : List Str := ["link", "contents", "fate", "_", "answers_suffice", "old_suffice", "bit", "heard", "ahead"]
def den_next_part : DL.Env → Out := (sCons (sAsg (fCall c_signs_of (aCons (fVar 0) (aCons (fVar 1) aNil))) (gTupD 4 (gConsD (gN 3) (gConsD (gN 3) (gConsD (gN 4) (gConsD (gN 5) gNilD)))))) (sCons (sIf (fBl (fOp eqD (fOp ixD (fVar 2) (fC (.int 0))) (fC (.str (Str.ofString "twice"))))) (sRet (fCall c_to_handed (aCons (fVar 0) (aCons (fVar 1) aNil)))) sNil) (sCons (sIf (fAnd (fBl (fOp eqD (fOp ixD (fVar 2) (fC (.int 0))) (fC (.str (Str.ofString "made"))))) (fTru (fVar 5))) (sRet (fCall c_to_made (aCons (fVar 0) (aCons (fVar 1) aNil)))) sNil) (sCons (sIf (fNot (fTru (fVar 4))) (sRet (fCall c_to_ended (aCons (fVar 0) (aCons (fVar 1) aNil)))) sNil) (sCons (sAsg (fOp ixD (fVar 1) (fC (.int 0))) (gTupD 2 (gConsD (gN 6) (gConsD (gN 7) gNilD)))) (sCons (sSet 8 (fIf (fAnd (fBl (fOp inA (fC (.str (Str.ofString "made"))) (fVar 2))) (fNot (fTru (fVar 5)))) (fCall c_lot_kept (aCons (fVar 0) (aCons (fVar 1) aNil))) (fCl lstD aNil))) (sRet (fOp catD (fVar 8) (fCl lstD (aCons (fCl tupD (aCons (fCl lstD (aCons (fCl tupD (aCons (fC (.str (Str.ofString "hear"))) (aCons (fVar 6) aNil))) aNil)) (aCons (fOp subD (fOp ixD (fVar 0) (fC (.int 3))) (fVar 7)) aNil))) aNil))))))))))
def c_next_part : List D → R0 := defD N_next_part 3 true den_next_part
abbrev N_run_to : List Str := ["link", "contents", "fate", "far", "part", "marks"]
def p_run_to_0 : DL.Env → Out := (sSet 4 (fCall c_next_part (aCons (fVar 0) (aCons (fVar 1) (aCons (fVar 2) aNil)))))
def p_run_to_1 : DL.Env → Out := (sAsg (fCall c_far_gone (aCons (fVar 0) (aCons (fVar 1) (aCons (fVar 4) aNil)))) (gTupD 2 (gConsD (gN 1) (gConsD (gN 5) gNilD))))
def p_run_to_2 : DL.Env → Out := (sSet 2 (fSl (fVar 2) (pSome (fCl lenF (aCons (fCall c_wrongs_of (aCons (fVar 5) aNil)) aNil))) pNone))
def b_run_to_3 : DL.Env → Out := (sCons p_run_to_0 (sCons p_run_to_1 (sCons (sExt 3 (fVar 4)) p_run_to_2)))
def p_run_to_4 : DL.Env → Out := (whileL (fTru (fVar 2)) b_run_to_3 100000)
def den_run_to : DL.Env → Out := (sCons (sSetO 3 (fCl lstD aNil)) (sCons p_run_to_4 (sRetV 3)))
def c_run_to : List D → R0 := defD N_run_to 3 true den_run_to
abbrev N_can_befall_them : List Str := ["link", "contents", "fault", "kind"]
def den_can_befall_them : DL.Env → Out := (sCons (sSet 3 (fOp ixD (fVar 2) (fC (.int 0)))) (sCons (sIf (fBl (fOp eqD (fVar 3) (fC (.str (Str.ofString "copy"))))) (sRet (fOp ltD (fCl sumF (aCons (fOp ixD (fVar 1) (fC (.int 2))) aNil)) (fOp ixD (fVar 0) (fC (.int 0))))) sNil) (sCons (sIf (fBl (fOp eqD (fVar 3) (fC (.str (Str.ofString "answer"))))) (sRet (fOp ltD (fCl sumF (aCons (fOp ixD (fVar 1) (fC (.int 3))) aNil)) (fOp ixD (fVar 0) (fC (.int 1))))) sNil) (sCons (sIf (fBl (fOp eqD (fVar 3) (fC (.str (Str.ofString "turn"))))) (sRet (fOp gtD (fOp ixD (fOp ixD (fVar 1) (fC (.int 2))) (fOp idxT (fC g_COPIES) (fOp ixD (fVar 2) (fC (.int 1))))) (fC (.int 0)))) sNil) (sCons (sIf (fBl (fOp eqD (fVar 3) (fC (.str (Str.ofString "swap"))))) (sRet (fOp gtD (fOp ixD (fOp ixD (fVar 1) (fC (.int 3))) (fOp ixD (fVar 2) (fC (.int 1)))) (fC (.int 0)))) sNil) (sCons (sIf (fBl (fOp eqD (fVar 3) (fC (.str (Str.ofString "heard"))))) (sRet (fOp ltD (fOp ixD (fVar 2) (fC (.int 1))) (fOp ixD (fVar 0) (fC (.int 3))))) sNil) (sRet (fOrV (fOp neD (fVar 3) (fC (.str (Str.ofString "lot")))) (fOp ltD (fOp ixD (fVar 2) (fC (.int 1))) (fOp ixD (fVar 0) (fC (.int 2))))))))))))
def c_can_befall_them : List D → R0 := defD N_can_befall_them 3 false den_can_befall_them
abbrev N_there_behind : List Str := ["contents", "fault", "taken"]
def den_there_behind : DL.Env → Out := (sCons (sIf (fBl (fOp eqD (fOp ixD (fVar 1) (fC (.int 0))) (fC (.str (Str.ofString "copy"))))) (sRet (fCall c_changed (aCons (fOp ixD (fVar 0) (fC (.int 2))) (aCons (fOp addD (fC (.int 1)) (fOp ixD (fVar 1) (fC (.int 1)))) (aCons (fC (.int 1)) aNil))))) sNil) (sCons (sSet 2 (fCall c_changed (aCons (fOp ixD (fVar 0) (fC (.int 2))) (aCons (fOp idxT (fC g_COPIES) (fOp ixD (fVar 1) (fC (.int 1)))) (aCons (fUn negD (fC (.int 1))) aNil))))) (sRet (fCall c_changed (aCons (fVar 2) (aCons (fOp subD (fC (.int 2)) (fCall c_borne_by (aCons (fVar 0) (aCons (fOp ixD (fVar 1) (fC (.int 1))) aNil)))) (aCons (fC (.int 1)) aNil)))))))
def c_there_behind : List D → R0 := defD N_there_behind 2 false den_there_behind
abbrev N_back_behind : List Str := ["contents", "fault"]
def den_back_behind : DL.Env → Out := (sCons (sIf (fBl (fOp eqD (fOp ixD (fVar 1) (fC (.int 0))) (fC (.str (Str.ofString "answer"))))) (sRet (fCall c_changed (aCons (fOp ixD (fVar 0) (fC (.int 3))) (aCons (fOp ixD (fVar 1) (fC (.int 1))) (aCons (fC (.int 1)) aNil))))) sNil) (sRet (fCall c_changed (aCons (fCall c_changed (aCons (fOp ixD (fVar 0) (fC (.int 3))) (aCons (fOp ixD (fVar 1) (fC (.int 1))) (aCons (fUn negD (fC (.int 1))) aNil)))) (aCons (fOp subD (fC (.int 1)) (fOp ixD (fVar 1) (fC (.int 1)))) (aCons (fC (.int 1)) aNil))))))
def c_back_behind : List D → R0 := defD N_back_behind 2 false den_back_behind
abbrev N_sender_turned : List Str := ["contents", "sent", "heard", "own", "lot", "done", "there", "back"]
def den_sender_turned : DL.Env → Out := (sCons (sAsg (fVar 0) (gTupD 4 (gConsD (gTupD 2 (gConsD (gN 1) (gConsD (gN 2) gNilD))) (gConsD (gTupD 3 (gConsD (gN 3) (gConsD (gN 4) (gConsD (gN 5) gNilD)))) (gConsD (gN 6) (gConsD (gN 7) gNilD)))))) (sCons (sSet 4 (fIf (fBl (fOp isN (fVar 4) (fC .non))) (fC .non) (fCl tupD (aCons (fC (.str (Str.ofString "old"))) (aCons (fOp ixD (fVar 4) (fC (.int 1))) aNil))))) (sRet (fCl tupD (aCons (fCl tupD (aCons (fOp subD (fC (.int 1)) (fVar 1)) (aCons (fVar 2) aNil))) (aCons (fCl tupD (aCons (fVar 3) (aCons (fVar 4) (aCons (fVar 5) aNil)))) (aCons (fCall c_grown_old (aCons (fVar 6) (aCons (fVar 1) aNil))) (aCons (fVar 7) aNil))))))))
def c_sender_turned : List D → R0 := defD N_sender_turned 1 false den_sender_turned
abbrev N_behind_fault : List Str := ["contents", "fault", "kind", "sent", "heard", "own", "lot", "done", "there", "back"]
def den_behind_fault : DL.Env → Out := (sCons (sSet 2 (fOp ixD (fVar 1) (fC (.int 0)))) (sCons (sAsg (fVar 0) (gTupD 4 (gConsD (gTupD 2 (gConsD (gN 3) (gConsD (gN 4) gNilD))) (gConsD (gTupD 3 (gConsD (gN 5) (gConsD (gN 6) (gConsD (gN 7) gNilD)))) (gConsD (gN 8) (gConsD (gN 9) gNilD)))))) (sCons (sIf (fBl (fOp eqD (fVar 2) (fC (.str (Str.ofString "sender"))))) (sRet (fCall c_sender_turned (aCons (fVar 0) aNil))) sNil) (sCons (sIf (fBl (fOp inA (fVar 2) (fCl tupD (aCons (fC (.str (Str.ofString "copy"))) (aCons (fC (.str (Str.ofString "turn"))) aNil))))) (sSet 8 (fCall c_there_behind (aCons (fVar 0) (aCons (fVar 1) aNil)))) (sIf (fBl (fOp inA (fVar 2) (fCl tupD (aCons (fC (.str (Str.ofString "answer"))) (aCons (fC (.str (Str.ofString "swap"))) aNil))))) (sSet 9 (fCall c_back_behind (aCons (fVar 0) (aCons (fVar 1) aNil)))) (sIf (fBl (fOp eqD (fVar 2) (fC (.str (Str.ofString "receiver"))))) (sPar2 5 6 (aCons (fOp subD (fC (.int 1)) (fVar 5)) (aCons (fC .non) aNil))) (sIf (fBl (fOp eqD (fVar 2) (fC (.str (Str.ofString "heard"))))) (sSet 4 (fOp ixD (fVar 1) (fC (.int 1)))) (sSet 6 (fIf (fBl (fOp gtD (fOp ixD (fVar 1) (fC (.int 1))) (fC (.int 0)))) (fCl tupD (aCons (fC (.str (Str.ofString "old"))) (aCons (fOp ixD (fVar 1) (fC (.int 1))) aNil))) (fC .non))))))) (sRet (fCl tupD (aCons (fCl tupD (aCons (fVar 3) (aCons (fVar 4) aNil))) (aCons (fCl tupD (aCons (fVar 5) (aCons (fVar 6) (aCons (fVar 7) aNil)))) (aCons (fVar 8) (aCons (fVar 9) aNil))))))))))
def c_behind_fault : List D → R0 := defD N_behind_fault 2 false den_behind_fault
abbrev N_rise_of : List Str := ["link", "contents", "fault"]
def den_rise_of : DL.Env → Out := (sRet (fOp subD (fCall c_harm_of (aCons (fVar 0) (aCons (fCall c_behind_fault (aCons (fVar 1) (aCons (fVar 2) aNil))) aNil))) (fCall c_harm_of (aCons (fVar 0) (aCons (fVar 1) aNil)))))
def c_rise_of : List D → R0 := defD N_rise_of 3 false den_rise_of
abbrev N_is_fault : List Str := ["value", "kind", "what"]
def den_is_fault : DL.Env → Out := (sCons (sIf (fBl (fOp inA (fVar 0) (fCl tupD (aCons (fCl tupD (aCons (fC (.str (Str.ofString "sender"))) aNil)) (aCons (fCl tupD (aCons (fC (.str (Str.ofString "receiver"))) aNil)) aNil))))) (sRet (fC (.bl true))) sNil) (sCons (sIf (fNot (fTru (fCall c_is_tuple_of (aCons (fVar 0) (aCons (fC (.int 2)) aNil))))) (sRet (fC (.bl false))) sNil) (sCons (sAsg (fVar 0) (gTupD 2 (gConsD (gN 1) (gConsD (gN 2) gNilD)))) (sCons (sIf (fBl (fOp inA (fVar 1) (fCl tupD (aCons (fC (.str (Str.ofString "copy"))) (aCons (fC (.str (Str.ofString "answer"))) (aCons (fC (.str (Str.ofString "swap"))) aNil)))))) (sRet (fCall c_is_bit (aCons (fVar 2) aNil))) sNil) (sCons (sIf (fBl (fOp eqD (fVar 1) (fC (.str (Str.ofString "turn"))))) (sRet (fOp inA (fVar 2) (fC g_COPIES))) sNil) (sRet (fAndV (fOp inA (fVar 1) (fCl tupD (aCons (fC (.str (Str.ofString "heard"))) (aCons (fC (.str (Str.ofString "lot"))) aNil)))) (fCall c_is_count (aCons (fVar 2) aNil)))))))))
def c_is_fault : List D → R0 := defD N_is_fault 1 false den_is_fault
abbrev N_need_befalling : List Str := ["link", "contents", "fault"]
def den_need_befalling : DL.Env → Out := (sCons (sExpr (fCall c_need_contents (aCons (fVar 0) (aCons (fVar 1) aNil)))) (sIf (fOr (fNot (fTru (fCall c_is_fault (aCons (fVar 2) aNil)))) (fNot (fTru (fCall c_can_befall_them (aCons (fVar 0) (aCons (fVar 1) (aCons (fVar 2) aNil))))))) sBad sNil))
def c_need_befalling : List D → R0 := defD N_need_befalling 3 false den_need_befalling
abbrev N_befallen : List Str := ["link", "contents", "fault"]
def den_befallen : DL.Env → Out := (sCons (sExpr (fCall c_need_befalling (aCons (fVar 0) (aCons (fVar 1) (aCons (fVar 2) aNil))))) (sRet (fCall c_behind_fault (aCons (fVar 1) (aCons (fVar 2) aNil)))))
def c_befallen : List D → R0 := defD N_befallen 3 false den_befallen
abbrev N_rise : List Str := ["link", "contents", "fault"]
def den_rise : DL.Env → Out := (sCons (sExpr (fCall c_need_befalling (aCons (fVar 0) (aCons (fVar 1) (aCons (fVar 2) aNil))))) (sCons (sExpr (fCall c_need_sound (aCons (fVar 0) aNil))) (sRet (fCall c_rise_of (aCons (fVar 0) (aCons (fVar 1) (aCons (fVar 2) aNil)))))))
def c_rise : List D → R0 := defD N_rise 3 false den_rise
abbrev N_come_of_far : List Str := ["link", "contents", "value"]
def den_come_of_far : DL.Env → Out := (sRet (fIf (fTru (fCall c_is_far_run (aCons (fVar 2) aNil))) (fCall c_far_gone (aCons (fVar 0) (aCons (fVar 1) (aCons (fVar 2) aNil)))) (fC .non)))
def c_come_of_far : List D → R0 := defD N_come_of_far 3 false den_come_of_far
abbrev N_copied : List Str := ["deed", "events", "many"]
def den_copied : DL.Env → Out := (sCons (sIf (fBl (fOp neD (fOp ixD (fVar 0) (fC (.int 0))) (fC (.str (Str.ofString "run"))))) (sRet (fVar 0)) sNil) (sRet (fCl tupD (aCons (fC (.str (Str.ofString "run"))) (aCons (fLc [1, 2] (fSeq (fOp ixD (fVar 0) (fC (.int 1)))) (gTupD 2 (gConsD (gN 1) (gConsD (gN 2) gNilD))) tYesD (fCl tupD (aCons (fCl lstF (aCons (fVar 1) aNil)) (aCons (fVar 2) aNil)))) aNil)))))
def c_copied : List D → R0 := defD N_copied 1 false den_copied
abbrev N_lying_there : List Str := ["contents"]
def den_lying_there : DL.Env → Out := (sRet (fOp addD (fSl (fOp ixD (fVar 0) (fC (.int 2))) (pSome (fC (.int 1))) pNone) (fOp ixD (fVar 0) (fC (.int 3)))))
def c_lying_there : List D → R0 := defD N_lying_there 1 false den_lying_there
abbrev N_is_mending_of : List Str := ["contents", "value", "taking", "many", "most"]
def den_is_mending_of : DL.Env → Out := (sCons (sIf (fOr (fNot (fTru (fCall c_is_tuple_of (aCons (fVar 1) (aCons (fC (.int 2)) aNil))))) (fOr (fNot (fTru (fCl isiF (aCons (fOp ixD (fVar 1) (fC (.int 0))) (aCons (fC (.opq (.ty "list"))) aNil))))) (fBl (fOp notInA (fCl tupF (aCons (fOp ixD (fVar 1) (fC (.int 0))) aNil)) (fC g_WORD_LISTS))))) (sRet (fC (.bl false))) sNil) (sCons (sSet 2 (fOp ixD (fVar 1) (fC (.int 1)))) (sCons (sIf (fOr (fNot (fTru (fCall c_is_tuple_of (aCons (fVar 2) (aCons (fC (.int 4)) aNil))))) (fNot (fTru (fCl allF (aCons (fLc [3] (fSeq (fVar 2)) (gN 3) tYesD (fCall c_is_count (aCons (fVar 3) aNil))) aNil))))) (sRet (fC (.bl false))) sNil) (sRet (fCl allF (aCons (fLc [3, 4] (fL zipD (aCons (fVar 2) (aCons (fCall c_lying_there (aCons (fVar 0) aNil)) aNil))) (gTupD 2 (gConsD (gN 3) (gConsD (gN 4) gNilD))) tYesD (fOp leD (fVar 3) (fVar 4))) aNil))))))
def c_is_mending_of : List D → R0 := defD N_is_mending_of 2 false den_is_mending_of
abbrev N_by_words : List Str := ["contents", "words", "sent", "heard", "own", "lot", "done", "there", "back"]
def den_by_words : DL.Env → Out := (sCons (sAsg (fVar 0) (gTupD 4 (gConsD (gTupD 2 (gConsD (gN 2) (gConsD (gN 3) gNilD))) (gConsD (gTupD 3 (gConsD (gN 4) (gConsD (gN 5) (gConsD (gN 6) gNilD)))) (gConsD (gN 7) (gConsD (gN 8) gNilD)))))) (sCons (sIf (fBl (fOp inA (fC (.str (Str.ofString "forget"))) (fVar 1))) (sSet 3 (fC (.int 0))) sNil) (sCons (sIf (fOr (fBl (fOp inA (fC (.str (Str.ofString "clear"))) (fVar 1))) (fBl (fOp inA (fC (.str (Str.ofString "turn"))) (fVar 1)))) (sSet 5 (fC .non)) sNil) (sCons (sIf (fBl (fOp inA (fC (.str (Str.ofString "turn"))) (fVar 1))) (sSet 4 (fOp subD (fC (.int 1)) (fVar 4))) sNil) (sRet (fCl tupD (aCons (fCl tupD (aCons (fVar 2) (aCons (fVar 3) aNil))) (aCons (fCl tupD (aCons (fVar 4) (aCons (fVar 5) (aCons (fVar 6) aNil)))) (aCons (fVar 7) (aCons (fVar 8) aNil))))))))))
def c_by_words : List D → R0 := defD N_by_words 2 false den_by_words
abbrev N_by_taking : List Str := ["contents", "taking", "sender", "receiver", "new", "zeros", "ones", "nays", "yeas"]
def den_by_taking : DL.Env → Out := (sCons (sAsg (fVar 0) (gTupD 4 (gConsD (gN 2) (gConsD (gN 3) (gConsD (gTupD 3 (gConsD (gN 4) (gConsD (gN 5) (gConsD (gN 6) gNilD)))) (gConsD (gTupD 2 (gConsD (gN 7) (gConsD (gN 8) gNilD))) gNilD)))))) (sRet (fCl tupD (aCons (fVar 2) (aCons (fVar 3) (aCons (fCl tupD (aCons (fVar 4) (aCons (fOp subD (fVar 5) (fOp ixD (fVar 1) (fC (.int 0)))) (aCons (fOp subD (fVar 6) (fOp ixD (fVar 1) (fC (.int 1)))) aNil)))) (aCons (fCl tupD (aCons (fOp subD (fVar 7) (fOp ixD (fVar 1) (fC (.int 2)))) (aCons (fOp subD (fVar 8) (fOp ixD (fVar 1) (fC (.int 3)))) aNil))) aNil)))))))
def c_by_taking : List D → R0 := defD N_by_taking 2 false den_by_taking
abbrev N_surplus : List Str := ["link", "contents"]
def den_surplus : DL.Env → Out := (sRet (fCl tupD (aCons (fCl maxF (aCons (fC (.int 0)) (aCons (fOp addD (fOp subD (fCall c_answers_of (aCons (fVar 1) aNil)) (fOp ixD (fVar 0) (fC (.int 3)))) (fC (.int 1))) aNil))) (aCons (fCl maxF (aCons (fC (.int 0)) (aCons (fOp addD (fOp subD (fCall c_old_of (aCons (fVar 1) aNil)) (fOp ixD (fVar 0) (fC (.int 2)))) (fC (.int 1))) aNil))) aNil))))
def c_surplus : List D → R0 := defD N_surplus 2 false den_surplus
abbrev N_taking_of : List Str := ["contents", "copies", "answers", "old"]
def den_taking_of : DL.Env → Out := (sCons (sSet 3 (fIf (fBl (fOp eqD (fOp ixD (fOp ixD (fVar 0) (fC (.int 1))) (fC (.int 0))) (fC (.int 1)))) (fCl tupD (aCons (fVar 1) (aCons (fC (.int 0)) aNil))) (fCl tupD (aCons (fC (.int 0)) (aCons (fVar 1) aNil))))) (sRet (fOp addD (fVar 3) (fIf (fBl (fOp eqD (fOp ixD (fOp ixD (fVar 0) (fC (.int 0))) (fC (.int 0))) (fC (.int 0)))) (fCl tupD (aCons (fVar 2) (aCons (fC (.int 0)) aNil))) (fCl tupD (aCons (fC (.int 0)) (aCons (fVar 2) aNil)))))))
def c_taking_of : List D → R0 := defD N_taking_of 3 false den_taking_of
abbrev N_takings_of : List Str := ["link", "contents", "answered", "copied", "copies", "answers"]
def den_takings_of : DL.Env → Out := (sCons (sAsg (fCall c_surplus (aCons (fVar 0) (aCons (fVar 1) aNil))) (gTupD 2 (gConsD (gN 2) (gConsD (gN 3) gNilD)))) (sRet (fLc2 [4, 5] [5] (fSeq (fIf (fTru (fVar 3)) (fCl lstD (aCons (fC (.int 0)) (aCons (fVar 3) aNil))) (fCl lstD (aCons (fC (.int 0)) aNil)))) (gN 4) tYesD (fSeq (fIf (fTru (fVar 2)) (fCl lstD (aCons (fC (.int 0)) (aCons (fVar 2) aNil))) (fCl lstD (aCons (fC (.int 0)) aNil)))) (gN 5) tYesD (fCall c_taking_of (aCons (fVar 1) (aCons (fVar 4) (aCons (fVar 5) aNil)))))))
def c_takings_of : List D → R0 := defD N_takings_of 2 true den_takings_of
abbrev N_mendings_to : List Str := ["link", "contents", "most", "found", "words", "changed", "taking"]
def p_mendings_to_0 : DL.Env → Out := (sSet 5 (fCall c_by_words (aCons (fVar 1) (aCons (fVar 4) aNil))))
def p_mendings_to_1 : DL.Env → Out := (sApp 3 (fCl tupD (aCons (fCl lstF (aCons (fVar 4) aNil)) (aCons (fVar 6) aNil))))
def p_mendings_to_2 : DL.Env → Out := (sIf (fBl (fOp leD (fCall c_harm_of (aCons (fVar 0) (aCons (fCall c_by_taking (aCons (fVar 5) (aCons (fVar 6) aNil))) aNil))) (fVar 2))) p_mendings_to_1 sNil)
def b_mendings_to_3 : DL.Env → Out := p_mendings_to_2
def p_mendings_to_4 : DL.Env → Out := (sFor (fSeq (fCall c_takings_of (aCons (fVar 0) (aCons (fVar 5) aNil)))) (gN 6) b_mendings_to_3)
def b_mendings_to_5 : DL.Env → Out := (sCons p_mendings_to_0 p_mendings_to_4)
def p_mendings_to_6 : DL.Env → Out := (sFor (fSeq (fC g_WORD_LISTS)) (gN 4) b_mendings_to_5)
def den_mendings_to : DL.Env → Out := (sCons (sSetO 3 (fCl lstD aNil)) (sCons p_mendings_to_6 (sRetV 3)))
def c_mendings_to : List D → R0 := defD N_mendings_to 3 true den_mendings_to
abbrev N_price_of : List Str := ["mending"]
def den_price_of : DL.Env → Out := (sRet (fOp addD (fCl lenF (aCons (fOp ixD (fVar 0) (fC (.int 0))) aNil)) (fCl sumF (aCons (fOp ixD (fVar 0) (fC (.int 1))) aNil))))
def c_price_of : List D → R0 := defD N_price_of 1 false den_price_of
abbrev N_least_cost : List Str := ["link", "contents", "most", "mending"]
def den_least_cost : DL.Env → Out := (sRet (fCl minLF (aCons (fLc [3] (fSeq (fCall c_mendings_to (aCons (fVar 0) (aCons (fVar 1) (aCons (fVar 2) aNil))))) (gN 3) tYesD (fCall c_price_of (aCons (fVar 3) aNil))) aNil)))
def c_least_cost : List D → R0 := defD N_least_cost 3 false den_least_cost
abbrev N_cheapest_of : List Str := ["link", "contents", "most", "found", "least", "mending"]
def den_cheapest_of : DL.Env → Out := (sCons (sSet 3 (fCall c_mendings_to (aCons (fVar 0) (aCons (fVar 1) (aCons (fVar 2) aNil))))) (sCons (sSet 4 (fCl minLF (aCons (fLc [5] (fSeq (fVar 3)) (gN 5) tYesD (fCall c_price_of (aCons (fVar 5) aNil))) aNil))) (sRet (fLc [5] (fSeq (fVar 3)) (gN 5) (fBl (fOp eqD (fCall c_price_of (aCons (fVar 5) aNil)) (fVar 4))) (fVar 5)))))
def c_cheapest_of : List D → R0 := defD N_cheapest_of 3 true den_cheapest_of
abbrev N_need_most : List Str := ["most"]
def den_need_most : DL.Env → Out := (sIf (fNot (fTru (fCall c_is_count (aCons (fVar 0) aNil)))) sBad sNil)
def c_need_most : List D → R0 := defD N_need_most 1 false den_need_most
abbrev N_need_to_mend : List Str := ["link", "contents", "most"]
def den_need_to_mend : DL.Env → Out := (sCons (sExpr (fCall c_need_contents (aCons (fVar 0) (aCons (fVar 1) aNil)))) (sCons (sExpr (fCall c_need_most (aCons (fVar 2) aNil))) (sExpr (fCall c_need_sound (aCons (fVar 0) aNil)))))
def c_need_to_mend : List D → R0 := defD N_need_to_mend 3 false den_need_to_mend
abbrev N_need_mending : List Str := ["link", "contents", "mending"]
def den_need_mending : DL.Env → Out := (sCons (sExpr (fCall c_need_contents (aCons (fVar 0) (aCons (fVar 1) aNil)))) (sIf (fNot (fTru (fCall c_is_mending_of (aCons (fVar 1) (aCons (fVar 2) aNil))))) sBad sNil))
def c_need_mending : List D → R0 := defD N_need_mending 3 false den_need_mending
abbrev N_mended : List Str := ["link", "contents", "mending"]
def den_mended : DL.Env → Out := (sCons (sExpr (fCall c_need_mending (aCons (fVar 0) (aCons (fVar 1) (aCons (fVar 2) aNil))))) (sRet (fCall c_by_taking (aCons (fCall c_by_words (aCons (fVar 1) (aCons (fOp ixD (fVar 2) (fC (.int 0))) aNil))) (aCons (fOp ixD (fVar 2) (fC (.int 1))) aNil)))))
def c_mended : List D → R0 := defD N_mended 3 false den_mended
abbrev N_mending_cost : List Str := ["link", "contents", "most"]
def den_mending_cost : DL.Env → Out := (sCons (sExpr (fCall c_need_to_mend (aCons (fVar 0) (aCons (fVar 1) (aCons (fVar 2) aNil))))) (sRet (fCall c_least_cost (aCons (fVar 0) (aCons (fVar 1) (aCons (fVar 2) aNil))))))
def c_mending_cost : List D → R0 := defD N_mending_cost 3 false den_mending_cost
abbrev N_cheapest_mendings : List Str := ["link", "contents", "most"]
def den_cheapest_mendings : DL.Env → Out := (sCons (sExpr (fCall c_need_to_mend (aCons (fVar 0) (aCons (fVar 1) (aCons (fVar 2) aNil))))) (sRet (fCall c_cheapest_of (aCons (fVar 0) (aCons (fVar 1) (aCons (fVar 2) aNil))))))
def c_cheapest_mendings : List D → R0 := defD N_cheapest_mendings 3 true den_cheapest_mendings
abbrev N_must_of : List Str := ["contents", "even"]
def den_must_of : DL.Env → Out := (sCons (sSet 1 (fOp eqD (fOp ixD (fOp ixD (fVar 0) (fC (.int 0))) (fC (.int 0))) (fOp ixD (fOp ixD (fVar 0) (fC (.int 1))) (fC (.int 0))))) (sRet (fIf (fBl (fOp neD (fVar 1) (fOp ixD (fOp ixD (fVar 0) (fC (.int 1))) (fC (.int 2))))) (fC (.int 1)) (fC (.int 0)))))
def c_must_of : List D → R0 := defD N_must_of 1 false den_must_of
abbrev N_must : List Str := ["link", "contents"]
def den_must : DL.Env → Out := (sCons (sExpr (fCall c_need_sound_contents (aCons (fVar 0) (aCons (fVar 1) aNil)))) (sRet (fCall c_must_of (aCons (fVar 1) aNil))))
def c_must : List D → R0 := defD N_must 2 false den_must
abbrev N_need_harm : List Str := ["many"]
def den_need_harm : DL.Env → Out := (sIf (fOr (fNot (fTru (fCall c_is_count (aCons (fVar 0) aNil)))) (fBl (fOp gtD (fVar 0) (fC (.int 3))))) sBad sNil)
def c_need_harm : List D → R0 := defD N_need_harm 1 false den_need_harm
abbrev N_other_done : List Str := ["link", "contents", "sender", "own", "lot", "done", "there", "back"]
def den_other_done : DL.Env → Out := (sCons (sExpr (fCall c_need_contents (aCons (fVar 0) (aCons (fVar 1) aNil)))) (sCons (sAsg (fVar 1) (gTupD 4 (gConsD (gN 2) (gConsD (gTupD 3 (gConsD (gN 3) (gConsD (gN 4) (gConsD (gN 5) gNilD)))) (gConsD (gN 6) (gConsD (gN 7) gNilD)))))) (sRet (fCl tupD (aCons (fVar 2) (aCons (fCl tupD (aCons (fVar 3) (aCons (fVar 4) (aCons (fNotV (fVar 5)) aNil)))) (aCons (fVar 6) (aCons (fVar 7) aNil))))))))
def c_other_done : List D → R0 := defD N_other_done 2 false den_other_done
abbrev N_is_seen_receiver : List Str := ["link", "value"]
def den_is_seen_receiver : DL.Env → Out := (sRet (fAndV (fCall c_is_tuple_of (aCons (fVar 1) (aCons (fC (.int 2)) aNil))) (fAndV (fCall c_is_bit (aCons (fOp ixD (fVar 1) (fC (.int 0))) aNil)) (fAndV (fCall c_is_count (aCons (fOp ixD (fVar 1) (fC (.int 1))) aNil)) (fOp ltD (fOp ixD (fVar 1) (fC (.int 1))) (fOp ixD (fVar 0) (fC (.int 2))))))))
def c_is_seen_receiver : List D → R0 := defD N_is_seen_receiver 2 false den_is_seen_receiver
abbrev N_is_view_of : List Str := ["link", "value", "sender", "receiver", "there", "back"]
def den_is_view_of : DL.Env → Out := (sCons (sIf (fNot (fTru (fCall c_is_tuple_of (aCons (fVar 1) (aCons (fC (.int 4)) aNil))))) (sRet (fC (.bl false))) sNil) (sCons (sAsg (fVar 1) (gTupD 4 (gConsD (gN 2) (gConsD (gN 3) (gConsD (gN 4) (gConsD (gN 5) gNilD)))))) (sCons (sIf (fAnd (fBl (fOp notN (fVar 2) (fC .non))) (fNot (fTru (fCall c_is_sender (aCons (fVar 0) (aCons (fVar 2) aNil)))))) (sRet (fC (.bl false))) sNil) (sCons (sIf (fAnd (fBl (fOp notN (fVar 3) (fC .non))) (fNot (fTru (fCall c_is_seen_receiver (aCons (fVar 0) (aCons (fVar 3) aNil)))))) (sRet (fC (.bl false))) sNil) (sCons (sIf (fAnd (fBl (fOp notN (fVar 4) (fC .non))) (fNot (fTru (fCall c_are_counts (aCons (fVar 4) (aCons (fC (.int 2)) (aCons (fOp ixD (fVar 0) (fC (.int 0))) aNil))))))) (sRet (fC (.bl false))) sNil) (sRet (fOrV (fOp isN (fVar 5) (fC .non)) (fCall c_are_counts (aCons (fVar 5) (aCons (fC (.int 2)) (aCons (fOp ixD (fVar 0) (fC (.int 1))) aNil)))))))))))
def c_is_view_of : List D → R0 := defD N_is_view_of 2 false den_is_view_of
abbrev N_need_view : List Str := ["link", "view"]
def den_need_view : DL.Env → Out := (sIf (fNot (fTru (fCall c_is_view_of (aCons (fVar 0) (aCons (fVar 1) aNil))))) sBad sNil)
def c_need_view : List D → R0 := defD N_need_view 2 false den_need_view
abbrev N_seen_of : List Str := ["contents", "sender", "own", "lot", "_", "new", "zeros", "ones", "back", "there"]
def den_seen_of : DL.Env → Out := (sCons (sAsg (fVar 0) (gTupD 4 (gConsD (gN 1) (gConsD (gTupD 3 (gConsD (gN 2) (gConsD (gN 3) (gConsD (gN 4) gNilD)))) (gConsD (gTupD 3 (gConsD (gN 5) (gConsD (gN 6) (gConsD (gN 7) gNilD)))) (gConsD (gN 8) gNilD)))))) (sCons (sSet 9 (fIf (fBl (fOp eqD (fOp ixD (fVar 1) (fC (.int 0))) (fC (.int 0)))) (fCl tupD (aCons (fOp addD (fVar 6) (fVar 5)) (aCons (fVar 7) aNil))) (fCl tupD (aCons (fVar 6) (aCons (fOp addD (fVar 7) (fVar 5)) aNil))))) (sRet (fCl tupD (aCons (fVar 1) (aCons (fCl tupD (aCons (fVar 2) (aCons (fIf (fBl (fOp isN (fVar 3) (fC .non))) (fC (.int 0)) (fOp ixD (fVar 3) (fC (.int 1)))) aNil))) (aCons (fVar 9) (aCons (fVar 8) aNil))))))))
def c_seen_of : List D → R0 := defD N_seen_of 1 false den_seen_of
abbrev N_view_of : List Str := ["link", "contents"]
def den_view_of : DL.Env → Out := (sCons (sExpr (fCall c_need_contents (aCons (fVar 0) (aCons (fVar 1) aNil)))) (sRet (fCall c_seen_of (aCons (fVar 1) aNil))))
def c_view_of : List D → R0 := defD N_view_of 2 false den_view_of
abbrev N_lot_for : List Str := ["link", "seen", "even", "worst"]
def den_lot_for : DL.Env → Out := (sCons (sIf (fBl (fOp isN (fVar 1) (fC .non))) (sRet (fIf (fAnd (fTru (fVar 3)) (fBl (fOp gtD (fOp ixD (fVar 0) (fC (.int 2))) (fC (.int 1))))) (fCl tupD (aCons (fC (.str (Str.ofString "old"))) (aCons (fOp subD (fOp ixD (fVar 0) (fC (.int 2))) (fC (.int 1))) aNil))) (fC .non))) sNil) (sCons (sIf (fBl (fOp eqD (fOp ixD (fVar 1) (fC (.int 1))) (fC (.int 0)))) (sRet (fC .non)) sNil) (sRet (fCl tupD (aCons (fIf (fOr (fTru (fVar 3)) (fTru (fVar 2))) (fC (.str (Str.ofString "old"))) (fC (.str (Str.ofString "new")))) (aCons (fOp ixD (fVar 1) (fC (.int 1))) aNil))))))
def c_lot_for : List D → R0 := defD N_lot_for 4 false den_lot_for
abbrev N_there_for : List Str := ["link", "seen", "bits", "worst", "sent", "own", "many"]
def den_there_for : DL.Env → Out := (sCons (sAsg (fVar 2) (gTupD 2 (gConsD (gN 4) (gConsD (gN 5) gNilD)))) (sCons (sIf (fBl (fOp isN (fVar 1) (fC .non))) (sCons (sSet 6 (fIf (fTru (fVar 3)) (fOp ixD (fVar 0) (fC (.int 0))) (fC (.int 0)))) (sRet (fIf (fBl (fOp eqD (fVar 5) (fC (.int 1)))) (fCl tupD (aCons (fC (.int 0)) (aCons (fVar 6) (aCons (fC (.int 0)) aNil)))) (fCl tupD (aCons (fC (.int 0)) (aCons (fC (.int 0)) (aCons (fVar 6) aNil))))))) sNil) (sCons (sIf (fOr (fTru (fVar 3)) (fBl (fOp eqD (fVar 4) (fVar 5)))) (sRet (fOp addD (fCl tupD (aCons (fC (.int 0)) aNil)) (fVar 1))) sNil) (sRet (fIf (fBl (fOp eqD (fVar 4) (fC (.int 0)))) (fCl tupD (aCons (fOp ixD (fVar 1) (fC (.int 0))) (aCons (fC (.int 0)) (aCons (fOp ixD (fVar 1) (fC (.int 1))) aNil)))) (fCl tupD (aCons (fOp ixD (fVar 1) (fC (.int 1))) (aCons (fOp ixD (fVar 1) (fC (.int 0))) (aCons (fC (.int 0)) aNil)))))))))
def c_there_for : List D → R0 := defD N_there_for 4 false den_there_for
abbrev N_back_for : List Str := ["link", "seen", "sent", "worst", "many"]
def den_back_for : DL.Env → Out := (sCons (sIf (fBl (fOp notN (fVar 1) (fC .non))) (sRet (fVar 1)) sNil) (sCons (sSet 4 (fIf (fTru (fVar 3)) (fOp ixD (fVar 0) (fC (.int 1))) (fC (.int 0)))) (sRet (fIf (fBl (fOp eqD (fVar 2) (fC (.int 0)))) (fCl tupD (aCons (fVar 4) (aCons (fC (.int 0)) aNil))) (fCl tupD (aCons (fC (.int 0)) (aCons (fVar 4) aNil)))))))
def c_back_for : List D → R0 := defD N_back_for 4 false den_back_for
abbrev N_look_with : List Str := ["link", "view", "bits", "done", "worst", "sender", "receiver", "there", "back", "sent", "own", "heard", "lot"]
def den_look_with : DL.Env → Out := (sCons (sAsg (fVar 1) (gTupD 4 (gConsD (gN 5) (gConsD (gN 6) (gConsD (gN 7) (gConsD (gN 8) gNilD)))))) (sCons (sAsg (fVar 2) (gTupD 2 (gConsD (gN 9) (gConsD (gN 10) gNilD)))) (sCons (sSet 11 (fIf (fBl (fOp isN (fVar 5) (fC .non))) (fIf (fTru (fVar 4)) (fOp subD (fOp ixD (fVar 0) (fC (.int 3))) (fC (.int 1))) (fC (.int 0))) (fOp ixD (fVar 5) (fC (.int 1))))) (sCons (sSet 12 (fCall c_lot_for (aCons (fVar 0) (aCons (fVar 6) (aCons (fOp eqD (fVar 9) (fVar 10)) (aCons (fVar 4) aNil)))))) (sRet (fCl tupD (aCons (fCl tupD (aCons (fVar 9) (aCons (fVar 11) aNil))) (aCons (fCl tupD (aCons (fVar 10) (aCons (fVar 12) (aCons (fVar 3) aNil)))) (aCons (fCall c_there_for (aCons (fVar 0) (aCons (fVar 7) (aCons (fVar 2) (aCons (fVar 4) aNil))))) (aCons (fCall c_back_for (aCons (fVar 0) (aCons (fVar 8) (aCons (fVar 9) (aCons (fVar 4) aNil))))) aNil))))))))))
def c_look_with : List D → R0 := defD N_look_with 5 false den_look_with
abbrev N_need_sound_view : List Str := ["link", "view"]
def den_need_sound_view : DL.Env → Out := (sCons (sExpr (fCall c_need_link (aCons (fVar 0) aNil))) (sCons (sExpr (fCall c_need_view (aCons (fVar 0) (aCons (fVar 1) aNil)))) (sExpr (fCall c_need_sound (aCons (fVar 0) aNil)))))
def c_need_sound_view : List D → R0 := defD N_need_sound_view 2 false den_need_sound_view
abbrev N_is_among : List Str := ["value", "many"]
def den_is_among : DL.Env → Out := (sRet (fAndV (fCall c_is_count (aCons (fVar 0) aNil)) (fOp ltD (fVar 0) (fVar 1))))
def c_is_among : List D → R0 := defD N_is_among 2 false den_is_among
abbrev N_is_way : List Str := ["hosts", "value"]
def den_is_way : DL.Env → Out := (sCons (sIf (fOr (fNot (fTru (fCall c_is_tuple_of (aCons (fVar 1) (aCons (fC (.int 3)) aNil))))) (fOr (fNot (fTru (fCall c_is_among (aCons (fOp ixD (fVar 1) (fC (.int 0))) (aCons (fVar 0) aNil))))) (fNot (fTru (fCall c_is_among (aCons (fOp ixD (fVar 1) (fC (.int 1))) (aCons (fVar 0) aNil))))))) (sRet (fC (.bl false))) sNil) (sRet (fAndV (fOp neD (fOp ixD (fVar 1) (fC (.int 0))) (fOp ixD (fVar 1) (fC (.int 1)))) (fCall c_is_link (aCons (fOp ixD (fVar 1) (fC (.int 2))) aNil)))))
def c_is_way : List D → R0 := defD N_is_way 2 false den_is_way
abbrev N_fits_web : List Str := ["web", "value", "way", "one"]
def den_fits_web : DL.Env → Out := (sCons (sIf (fOr (fNot (fTru (fCl isiF (aCons (fVar 1) (aCons (fC (.opq (.ty "list"))) aNil))))) (fBl (fOp neD (fCl lenF (aCons (fVar 1) aNil)) (fCl lenF (aCons (fOp ixD (fVar 0) (fC (.int 1))) aNil))))) (sRet (fC (.bl false))) sNil) (sRet (fCl allF (aCons (fLc [2, 3] (fL zipD (aCons (fOp ixD (fVar 0) (fC (.int 1))) (aCons (fVar 1) aNil))) (gTupD 2 (gConsD (gN 2) (gConsD (gN 3) gNilD))) tYesD (fCall c_fits_link (aCons (fOp ixD (fVar 2) (fC (.int 2))) (aCons (fVar 3) aNil)))) aNil))))
def c_fits_web : List D → R0 := defD N_fits_web 2 false den_fits_web
abbrev N_is_web : List Str := ["value", "hosts", "ways", "way", "later"]
def den_is_web : DL.Env → Out := (sCons (sIf (fOr (fNot (fTru (fCall c_is_tuple_of (aCons (fVar 0) (aCons (fC (.int 2)) aNil))))) (fOr (fNot (fTru (fCall c_is_count (aCons (fOp ixD (fVar 0) (fC (.int 0))) aNil)))) (fOr (fBl (fOp ltD (fOp ixD (fVar 0) (fC (.int 0))) (fC (.int 1)))) (fNot (fTru (fCl isiF (aCons (fOp ixD (fVar 0) (fC (.int 1))) (aCons (fC (.opq (.ty "list"))) aNil)))))))) (sRet (fC (.bl false))) sNil) (sCons (sAsg (fVar 0) (gTupD 2 (gConsD (gN 1) (gConsD (gN 2) gNilD)))) (sCons (sIf (fNot (fTru (fCl allF (aCons (fLc [3] (fSeq (fVar 2)) (gN 3) tYesD (fCall c_is_way (aCons (fVar 1) (aCons (fVar 3) aNil)))) aNil)))) (sRet (fC (.bl false))) sNil) (sRet (fCl allF (aCons (fLc [3, 4] (fL zipD (aCons (fVar 2) (aCons (fSl (fVar 2) (pSome (fC (.int 1))) pNone) aNil))) (gTupD 2 (gConsD (gN 3) (gConsD (gN 4) gNilD))) tYesD (fOp ltD (fSl (fVar 3) pNone (pSome (fC (.int 2)))) (fSl (fVar 4) pNone (pSome (fC (.int 2)))))) aNil))))))
def c_is_web : List D → R0 := defD N_is_web 1 false den_is_web
abbrev N_need_web : List Str := ["web"]
def den_need_web : DL.Env → Out := (sIf (fNot (fTru (fCall c_is_web (aCons (fVar 0) aNil)))) sBad sNil)
def c_need_web : List D → R0 := defD N_need_web 1 false den_need_web
abbrev N_need_web_contents : List Str := ["web", "contents"]
def den_need_web_contents : DL.Env → Out := (sCons (sExpr (fCall c_need_web (aCons (fVar 0) aNil))) (sIf (fNot (fTru (fCall c_fits_web (aCons (fVar 0) (aCons (fVar 1) aNil))))) sBad sNil))
def c_need_web_contents : List D → R0 := defD N_need_web_contents 2 false den_need_web_contents
abbrev N_need_all_sound : List Str := ["web", "_", "link"]
def p_need_all_sound_0 : DL.Env → Out := (sIf (fNot (fTru (fCall c_is_sound (aCons (fVar 2) aNil)))) sBad sNil)
def b_need_all_sound_1 : DL.Env → Out := p_need_all_sound_0
def p_need_all_sound_2 : DL.Env → Out := (sFor (fSeq (fOp ixD (fVar 0) (fC (.int 1)))) (gTupD 3 (gConsD (gN 1) (gConsD (gN 1) (gConsD (gN 2) gNilD)))) b_need_all_sound_1)
def den_need_all_sound : DL.Env → Out := p_need_all_sound_2
def c_need_all_sound : List D → R0 := defD N_need_all_sound 1 false den_need_all_sound
abbrev N_harms_of : List Str := ["web", "contents", "way", "one"]
def den_harms_of : DL.Env → Out := (sRet (fLc [2, 3] (fL zipD (aCons (fOp ixD (fVar 0) (fC (.int 1))) (aCons (fVar 1) aNil))) (gTupD 2 (gConsD (gN 2) (gConsD (gN 3) gNilD))) tYesD (fCall c_harm_of (aCons (fOp ixD (fVar 2) (fC (.int 2))) (aCons (fVar 3) aNil)))))
def c_harms_of : List D → R0 := defD N_harms_of 2 true den_harms_of
abbrev N_web_harm : List Str := ["web", "contents"]
def den_web_harm : DL.Env → Out := (sCons (sExpr (fCall c_need_web_contents (aCons (fVar 0) (aCons (fVar 1) aNil)))) (sCons (sExpr (fCall c_need_all_sound (aCons (fVar 0) aNil))) (sRet (fCl sumF (aCons (fCall c_harms_of (aCons (fVar 0) (aCons (fVar 1) aNil))) aNil)))))
def c_web_harm : List D → R0 := defD N_web_harm 2 false den_web_harm
abbrev N_is_run : List Str := ["value"]
def den_is_run : DL.Env → Out := (sRet (fCall c_is_run_of (aCons (fVar 0) (aCons (fC g_EVENTS) aNil))))
def c_is_run : List D → R0 := defD N_is_run 1 false den_is_run
abbrev N_is_contents : List Str := ["link", "value"]
def den_is_contents : DL.Env → Out := (sCons (sExpr (fCall c_need_link (aCons (fVar 0) aNil))) (sRet (fCall c_fits_link (aCons (fVar 0) (aCons (fVar 1) aNil)))))
def c_is_contents : List D → R0 := defD N_is_contents 2 false den_is_contents
abbrev N_need_event : List Str := ["event"]
def den_need_event : DL.Env → Out := (sIf (fNot (fTru (fCall c_is_event (aCons (fVar 0) aNil)))) sBad sNil)
def c_need_event : List D → R0 := defD N_need_event 1 false den_need_event
abbrev N_is_even : List Str := ["link", "contents"]
def den_is_even : DL.Env → Out := (sCons (sExpr (fCall c_need_contents (aCons (fVar 0) (aCons (fVar 1) aNil)))) (sRet (fOp eqD (fOp ixD (fOp ixD (fVar 1) (fC (.int 0))) (fC (.int 0))) (fOp ixD (fOp ixD (fVar 1) (fC (.int 1))) (fC (.int 0))))))
def c_is_even : List D → R0 := defD N_is_even 2 false den_is_even
abbrev N_old_copies : List Str := ["link", "contents", "bit"]
def den_old_copies : DL.Env → Out := (sCons (sExpr (fCall c_need_contents (aCons (fVar 0) (aCons (fVar 1) aNil)))) (sCons (sExpr (fCall c_need_bit (aCons (fVar 2) aNil))) (sRet (fOp ixD (fOp ixD (fVar 1) (fC (.int 2))) (fOp addD (fC (.int 1)) (fVar 2))))))
def c_old_copies : List D → R0 := defD N_old_copies 3 false den_old_copies
abbrev N_answers : List Str := ["link", "contents", "bit"]
def den_answers : DL.Env → Out := (sCons (sExpr (fCall c_need_contents (aCons (fVar 0) (aCons (fVar 1) aNil)))) (sCons (sExpr (fCall c_need_bit (aCons (fVar 2) aNil))) (sRet (fOp ixD (fOp ixD (fVar 1) (fC (.int 3))) (fVar 2)))))
def c_answers : List D → R0 := defD N_answers 3 false den_answers
abbrev N_mirrored : List Str := ["link", "contents", "sent", "heard", "bit", "lot", "done", "new", "zeros", "ones", "nays", "yeas"]
def den_mirrored : DL.Env → Out := (sCons (sExpr (fCall c_need_contents (aCons (fVar 0) (aCons (fVar 1) aNil)))) (sCons (sAsg (fVar 1) (gTupD 4 (gConsD (gTupD 2 (gConsD (gN 2) (gConsD (gN 3) gNilD))) (gConsD (gTupD 3 (gConsD (gN 4) (gConsD (gN 5) (gConsD (gN 6) gNilD)))) (gConsD (gTupD 3 (gConsD (gN 7) (gConsD (gN 8) (gConsD (gN 9) gNilD)))) (gConsD (gTupD 2 (gConsD (gN 10) (gConsD (gN 11) gNilD))) gNilD)))))) (sRet (fCl tupD (aCons (fCl tupD (aCons (fOp subD (fC (.int 1)) (fVar 2)) (aCons (fVar 3) aNil))) (aCons (fCl tupD (aCons (fOp subD (fC (.int 1)) (fVar 4)) (aCons (fVar 5) (aCons (fVar 6) aNil)))) (aCons (fCl tupD (aCons (fVar 7) (aCons (fVar 9) (aCons (fVar 8) aNil)))) (aCons (fCl tupD (aCons (fVar 11) (aCons (fVar 10) aNil))) aNil))))))))
def c_mirrored : List D → R0 := defD N_mirrored 2 false den_mirrored
abbrev N_mirrored_event : List Str := ["event"]
def den_mirrored_event : DL.Env → Out := (sCons (sExpr (fCall c_need_event (aCons (fVar 0) aNil))) (sCons (sIf (fBl (fOp inA (fOp ixD (fVar 0) (fC (.int 0))) (fCl tupD (aCons (fC (.str (Str.ofString "hear"))) (aCons (fC (.str (Str.ofString "miss"))) aNil))))) (sRet (fCl tupD (aCons (fOp ixD (fVar 0) (fC (.int 0))) (aCons (fOp subD (fC (.int 1)) (fOp ixD (fVar 0) (fC (.int 1)))) aNil)))) sNil) (sCons (sIf (fBl (fOp eqD (fOp ixD (fVar 0) (fUn negD (fC (.int 1)))) (fC (.str (Str.ofString "zero"))))) (sRet (fCl tupD (aCons (fOp ixD (fVar 0) (fC (.int 0))) (aCons (fC (.str (Str.ofString "one"))) aNil)))) sNil) (sCons (sIf (fBl (fOp eqD (fOp ixD (fVar 0) (fUn negD (fC (.int 1)))) (fC (.str (Str.ofString "one"))))) (sRet (fCl tupD (aCons (fOp ixD (fVar 0) (fC (.int 0))) (aCons (fC (.str (Str.ofString "zero"))) aNil)))) sNil) (sRet (fVar 0))))))
def c_mirrored_event : List D → R0 := defD N_mirrored_event 1 false den_mirrored_event
abbrev N_far_of : List Str := ["run", "far", "event"]
def p_far_of_0 : DL.Env → Out := (sIf (fNot (fTru (fCall c_is_run (aCons (fVar 0) aNil)))) sBad sNil)
def p_far_of_1 : DL.Env → Out := (sSub 1 (fCl tupD (aCons (fCl lstD (aCons (fVar 2) aNil)) (aCons (fOp addD (fOp ixD (fLend (fOp ixD (fVar 1) (fUn negD (fC (.int 1))))) (fC (.int 1))) (fC (.int 1))) aNil))) (fUn negD (fC (.int 1))))
def p_far_of_2 : DL.Env → Out := (sApp 1 (fCl tupD (aCons (fCl lstD (aCons (fVar 2) aNil)) (aCons (fC (.int 1)) aNil))))
def p_far_of_3 : DL.Env → Out := (sIf (fLendT (fAnd (fTru (fVar 1)) (fBl (fOp eqD (fOp ixD (fOp ixD (fVar 1) (fUn negD (fC (.int 1)))) (fC (.int 0))) (fCl lstD (aCons (fVar 2) aNil)))))) p_far_of_1 p_far_of_2)
def b_far_of_4 : DL.Env → Out := p_far_of_3
def p_far_of_5 : DL.Env → Out := (sFor (fSeq (fVar 0)) (gN 2) b_far_of_4)
def den_far_of : DL.Env → Out := (sCons p_far_of_0 (sCons (sSetO 1 (fCl lstD aNil)) (sCons p_far_of_5 (sRetV 1))))
def c_far_of : List D → R0 := defD N_far_of 1 true den_far_of
abbrev N_is_possible : List Str := ["link", "contents", "value"]
def den_is_possible : DL.Env → Out := (sCons (sExpr (fCall c_need_contents (aCons (fVar 0) (aCons (fVar 1) aNil)))) (sRet (fAndV (fCall c_is_event (aCons (fVar 2) aNil)) (fCall c_can_happen (aCons (fVar 0) (aCons (fVar 1) (aCons (fVar 2) aNil)))))))
def c_is_possible : List D → R0 := defD N_is_possible 3 false den_is_possible
abbrev N_behind : List Str := ["link", "contents", "event"]
def den_behind : DL.Env → Out := (sCons (sExpr (fCall c_need_possible (aCons (fVar 0) (aCons (fVar 1) (aCons (fVar 2) aNil))))) (sRet (fCall c_moved (aCons (fVar 0) (aCons (fVar 1) (aCons (fVar 2) aNil))))))
def c_behind : List D → R0 := defD N_behind 3 false den_behind
abbrev N_ends_turn : List Str := ["link", "contents", "event"]
def den_ends_turn : DL.Env → Out := (sCons (sExpr (fCall c_need_possible (aCons (fVar 0) (aCons (fVar 1) (aCons (fVar 2) aNil))))) (sRet (fCall c_has_ended (aCons (fVar 1) (aCons (fCall c_moved (aCons (fVar 0) (aCons (fVar 1) (aCons (fVar 2) aNil)))) aNil)))))
def c_ends_turn : List D → R0 := defD N_ends_turn 3 false den_ends_turn
abbrev N_hands_out : List Str := ["link", "contents", "event"]
def den_hands_out : DL.Env → Out := (sCons (sExpr (fCall c_need_possible (aCons (fVar 0) (aCons (fVar 1) (aCons (fVar 2) aNil))))) (sRet (fCall c_has_handed (aCons (fVar 1) (aCons (fCall c_moved (aCons (fVar 0) (aCons (fVar 1) (aCons (fVar 2) aNil)))) aNil)))))
def c_hands_out : List D → R0 := defD N_hands_out 3 false den_hands_out
abbrev N_run_told : List Str := ["link", "contents", "events", "told"]
def den_run_told : DL.Env → Out := (sCons (sExpr (fCall c_need_contents (aCons (fVar 0) (aCons (fVar 1) aNil)))) (sCons (sSet 3 (fIf (fTru (fCall c_is_run (aCons (fVar 2) aNil))) (fCall c_gone_once (aCons (fVar 0) (aCons (fVar 1) (aCons (fVar 2) aNil)))) (fC .non))) (sCons (sIf (fBl (fOp isN (fVar 3) (fC .non))) sBad sNil) (sRet (fSl (fVar 3) pNone (pSome (fC (.int 2))))))))
def c_run_told : List D → R0 := defD N_run_told 3 false den_run_told
abbrev N_can_go : List Str := ["link", "contents", "value"]
def den_can_go : DL.Env → Out := (sCons (sExpr (fCall c_need_contents (aCons (fVar 0) (aCons (fVar 1) aNil)))) (sRet (fAndV (fCall c_is_run (aCons (fVar 2) aNil)) (fOp notN (fCall c_gone_once (aCons (fVar 0) (aCons (fVar 1) (aCons (fVar 2) aNil)))) (fC .non)))))
def c_can_go : List D → R0 := defD N_can_go 3 false den_can_go
abbrev N_after : List Str := ["link", "contents", "events"]
def den_after : DL.Env → Out := (sRet (fOp ixD (fCall c_run_told (aCons (fVar 0) (aCons (fVar 1) (aCons (fVar 2) aNil)))) (fC (.int 0))))
def c_after : List D → R0 := defD N_after 3 false den_after
abbrev N_wrong_steps : List Str := ["link", "contents", "events"]
def den_wrong_steps : DL.Env → Out := (sRet (fCall c_wrongs_of (aCons (fOp ixD (fCall c_run_told (aCons (fVar 0) (aCons (fVar 1) (aCons (fVar 2) aNil)))) (fC (.int 1))) aNil)))
def c_wrong_steps : List D → R0 := defD N_wrong_steps 3 true den_wrong_steps
abbrev N_turns_ended : List Str := ["link", "contents", "events"]
def den_turns_ended : DL.Env → Out := (sRet (fCall c_turns_of (aCons (fOp ixD (fCall c_run_told (aCons (fVar 0) (aCons (fVar 1) (aCons (fVar 2) aNil)))) (fC (.int 1))) aNil)))
def c_turns_ended : List D → R0 := defD N_turns_ended 3 false den_turns_ended
abbrev N_handed_out : List Str := ["link", "contents", "events", "letters", "number", "kind", "_"]
def p_handed_out_0 : DL.Env → Out := (sPar2 3 4 (aCons (fCl lstD aNil) (aCons (fC (.int 0)) aNil)))
def p_handed_out_1 : DL.Env → Out := (sApp 3 (fIf (fBl (fOp eqD (fVar 5) (fC (.str (Str.ofString "new"))))) (fVar 4) (fC .non)))
def p_handed_out_2 : DL.Env → Out := (sIf (fBl (fOp eqD (fVar 5) (fC (.str (Str.ofString "turn"))))) (sAug 4 (· + ·) (fC (.int 1))) p_handed_out_1)
def b_handed_out_3 : DL.Env → Out := p_handed_out_2
def p_handed_out_4 : DL.Env → Out := (sFor (fSeq (fOp ixD (fCall c_run_told (aCons (fVar 0) (aCons (fVar 1) (aCons (fVar 2) aNil)))) (fC (.int 1)))) (gTupD 2 (gConsD (gN 5) (gConsD (gN 6) gNilD))) b_handed_out_3)
def den_handed_out : DL.Env → Out := (sCons p_handed_out_0 (sCons p_handed_out_4 (sRetV 3)))
def c_handed_out : List D → R0 := defD N_handed_out 3 true den_handed_out
abbrev N_can_go_far : List Str := ["link", "contents", "value"]
def den_can_go_far : DL.Env → Out := (sCons (sExpr (fCall c_need_contents (aCons (fVar 0) (aCons (fVar 1) aNil)))) (sRet (fAndV (fCall c_is_far_run (aCons (fVar 2) aNil)) (fOp notN (fCall c_far_gone (aCons (fVar 0) (aCons (fVar 1) (aCons (fVar 2) aNil)))) (fC .non)))))
def c_can_go_far : List D → R0 := defD N_can_go_far 3 false den_can_go_far
abbrev N_far_turns : List Str := ["link", "contents", "far"]
def den_far_turns : DL.Env → Out := (sRet (fCall c_turns_of (aCons (fOp ixD (fCall c_far_told (aCons (fVar 0) (aCons (fVar 1) (aCons (fVar 2) aNil)))) (fC (.int 1))) aNil)))
def c_far_turns : List D → R0 := defD N_far_turns 3 false den_far_turns
abbrev N_leading_to : List Str := ["link", "contents", "other", "event"]
def den_leading_to : DL.Env → Out := (sCons (sExpr (fCall c_need_contents (aCons (fVar 0) (aCons (fVar 1) aNil)))) (sCons (sIf (fNot (fTru (fCall c_fits_link (aCons (fVar 0) (aCons (fVar 2) aNil))))) sBad sNil) (sRet (fLc [3] (fSeq (fCall c_events_of (aCons (fVar 0) (aCons (fVar 1) aNil)))) (gN 3) (fBl (fOp eqD (fCall c_moved (aCons (fVar 0) (aCons (fVar 1) (aCons (fVar 3) aNil)))) (fVar 2))) (fVar 3)))))
def c_leading_to : List D → R0 := defD N_leading_to 3 true den_leading_to
abbrev N_tally : List Str := ["far", "words", "events", "many", "event", "word", "told"]
def den_tally : DL.Env → Out := (sCons (sIf (fNot (fTru (fCall c_is_far_run (aCons (fVar 0) aNil)))) sBad sNil) (sCons (sSet 1 (fLc2 [2, 3, 4] [4] (fSeq (fVar 0)) (gTupD 2 (gConsD (gN 2) (gConsD (gN 3) gNilD))) tYesD (fSeq (fVar 2)) (gN 4) tYesD (fCl tupD (aCons (fOp ixD (fVar 4) (fC (.int 0))) (aCons (fVar 3) aNil))))) (sRet (fCl tupF (aCons (fLc [5] (fSeq (fC g_WORDS)) (gN 5) tYesD (fCl sumF (aCons (fLc [6, 3] (fSeq (fVar 1)) (gTupD 2 (gConsD (gN 6) (gConsD (gN 3) gNilD))) (fBl (fOp eqD (fVar 6) (fVar 5))) (fVar 3)) aNil))) aNil)))))
def c_tally : List D → R0 := defD N_tally 1 false den_tally
abbrev N_some_contents : List Str := ["link", "many", "sender", "lot"]
def den_some_contents : DL.Env → Out := (sCons (sExpr (fCall c_need_link (aCons (fVar 0) aNil))) (sCons (sIf (fOr (fNot (fTru (fCall c_is_count (aCons (fVar 1) aNil)))) (fBl (fOp gtD (fVar 1) (fC (.int 3))))) sBad sNil) (sCons (sExpr (fCall c_need_sound (aCons (fVar 0) aNil))) (sCons (sIf (fBl (fOp ltD (fVar 1) (fC (.int 2)))) (sRet (fCl tupD (aCons (fCl tupD (aCons (fC (.int 0)) (aCons (fC (.int 0)) aNil))) (aCons (fCl tupD (aCons (fC (.int 1)) (aCons (fC .non) (aCons (fOp eqD (fVar 1) (fC (.int 1))) aNil)))) (aCons (fCl tupD (aCons (fC (.int 0)) (aCons (fC (.int 0)) (aCons (fC (.int 0)) aNil)))) (aCons (fCl tupD (aCons (fC (.int 0)) (aCons (fC (.int 0)) aNil))) aNil)))))) sNil) (sCons (sSet 2 (fCl tupD (aCons (fC (.int 0)) (aCons (fOp subD (fOp ixD (fVar 0) (fC (.int 3))) (fC (.int 1))) aNil)))) (sCons (sIf (fBl (fOp eqD (fVar 1) (fC (.int 2)))) (sRet (fCl tupD (aCons (fVar 2) (aCons (fCl tupD (aCons (fC (.int 1)) (aCons (fC .non) (aCons (fC (.bl false)) aNil)))) (aCons (fCl tupD (aCons (fC (.int 0)) (aCons (fC (.int 0)) (aCons (fC (.int 0)) aNil)))) (aCons (fCl tupD (aCons (fC (.int 1)) (aCons (fC (.int 0)) aNil))) aNil)))))) sNil) (sCons (sSet 3 (fIf (fBl (fOp gtD (fOp ixD (fVar 0) (fC (.int 2))) (fC (.int 1)))) (fCl tupD (aCons (fC (.str (Str.ofString "old"))) (aCons (fOp subD (fOp ixD (fVar 0) (fC (.int 2))) (fC (.int 1))) aNil))) (fC .non))) (sRet (fCl tupD (aCons (fVar 2) (aCons (fCl tupD (aCons (fC (.int 0)) (aCons (fVar 3) (aCons (fC (.bl false)) aNil)))) (aCons (fCl tupD (aCons (fC (.int 0)) (aCons (fC (.int 0)) (aCons (fC (.int 1)) aNil)))) (aCons (fCl tupD (aCons (fC (.int 1)) (aCons (fC (.int 0)) aNil))) aNil)))))))))))))
def c_some_contents : List D → R0 := defD N_some_contents 2 false den_some_contents
abbrev N_answers_count : List Str := ["link", "contents"]
def den_answers_count : DL.Env → Out := (sCons (sExpr (fCall c_need_contents (aCons (fVar 0) (aCons (fVar 1) aNil)))) (sRet (fCall c_answers_of (aCons (fVar 1) aNil))))
def c_answers_count : List D → R0 := defD N_answers_count 2 false den_answers_count
abbrev N_old_count : List Str := ["link", "contents"]
def den_old_count : DL.Env → Out := (sCons (sExpr (fCall c_need_contents (aCons (fVar 0) (aCons (fVar 1) aNil)))) (sRet (fCall c_old_of (aCons (fVar 1) aNil))))
def c_old_count : List D → R0 := defD N_old_count 2 false den_old_count
abbrev N_keeps : List Str := ["link", "contents", "event", "later", "worth"]
def den_keeps : DL.Env → Out := (sCons (sSet 3 (fCall c_moved (aCons (fVar 0) (aCons (fVar 1) (aCons (fVar 2) aNil))))) (sCons (sSet 4 (fIf (fBl (fOp isN (fCall c_wrong_between (aCons (fVar 1) (aCons (fVar 2) (aCons (fVar 3) aNil)))) (fC .non))) (fC (.int 0)) (fC (.int 1)))) (sRet (fOp eqD (fOp addD (fCall c_harm_of (aCons (fVar 0) (aCons (fVar 3) aNil))) (fVar 4)) (fCall c_harm_of (aCons (fVar 0) (aCons (fVar 1) aNil)))))))
def c_keeps : List D → R0 := defD N_keeps 3 false den_keeps
abbrev N_keeping_events : List Str := ["link", "contents", "event"]
def den_keeping_events : DL.Env → Out := (sCons (sExpr (fCall c_need_sound_contents (aCons (fVar 0) (aCons (fVar 1) aNil)))) (sRet (fLc [2] (fSeq (fCall c_events_of (aCons (fVar 0) (aCons (fVar 1) aNil)))) (gN 2) (fTru (fCall c_keeps (aCons (fVar 0) (aCons (fVar 1) (aCons (fVar 2) aNil))))) (fVar 2))))
def c_keeping_events : List D → R0 := defD N_keeping_events 2 true den_keeping_events
abbrev N_begins_worst : List Str := ["link", "contents", "event"]
def den_begins_worst : DL.Env → Out := (sRet (fAndV (fCall c_can_happen (aCons (fVar 0) (aCons (fVar 1) (aCons (fVar 2) aNil)))) (fAndV (fOp gtD (fCall c_harm_of (aCons (fVar 0) (aCons (fVar 1) aNil))) (fC (.int 0))) (fCall c_keeps (aCons (fVar 0) (aCons (fVar 1) (aCons (fVar 2) aNil)))))))
def c_begins_worst : List D → R0 := defD N_begins_worst 3 false den_begins_worst
abbrev N_need_all : List Str := ["link", "contents", "event"]
def den_need_all : DL.Env → Out := (sCons (sExpr (fCall c_need_contents (aCons (fVar 0) (aCons (fVar 1) aNil)))) (sCons (sExpr (fCall c_need_event (aCons (fVar 2) aNil))) (sExpr (fCall c_need_sound (aCons (fVar 0) aNil)))))
def c_need_all : List D → R0 := defD N_need_all 3 false den_need_all
abbrev N_is_worst_event : List Str := ["link", "contents", "event"]
def den_is_worst_event : DL.Env → Out := (sCons (sExpr (fCall c_need_all (aCons (fVar 0) (aCons (fVar 1) (aCons (fVar 2) aNil))))) (sRet (fCall c_begins_worst (aCons (fVar 0) (aCons (fVar 1) (aCons (fVar 2) aNil))))))
def c_is_worst_event : List D → R0 := defD N_is_worst_event 3 false den_is_worst_event
abbrev N_first_wrong : List Str := ["link", "contents"]
def den_first_wrong : DL.Env → Out := (sCons (sExpr (fCall c_need_sound_contents (aCons (fVar 0) (aCons (fVar 1) aNil)))) (sRet (fIf (fBl (fOp gtD (fCall c_harm_of (aCons (fVar 0) (aCons (fVar 1) aNil))) (fC (.int 0)))) (fCall c_next_wrong (aCons (fVar 0) (aCons (fVar 1) aNil))) (fC .non))))
def c_first_wrong : List D → R0 := defD N_first_wrong 2 false den_first_wrong
abbrev N_worst_by : List Str := ["link", "contents", "event"]
def den_worst_by : DL.Env → Out := (sCons (sExpr (fCall c_need_all (aCons (fVar 0) (aCons (fVar 1) (aCons (fVar 2) aNil))))) (sCons (sIf (fNot (fTru (fCall c_begins_worst (aCons (fVar 0) (aCons (fVar 1) (aCons (fVar 2) aNil)))))) (sRet (fC .non)) sNil) (sRet (fOp addD (fCl lstD (aCons (fCl tupD (aCons (fCl lstD (aCons (fVar 2) aNil)) (aCons (fC (.int 1)) aNil))) aNil)) (fCall c_worst_of (aCons (fVar 0) (aCons (fCall c_moved (aCons (fVar 0) (aCons (fVar 1) (aCons (fVar 2) aNil)))) aNil)))))))
def c_worst_by : List D → R0 := defD N_worst_by 3 false den_worst_by
abbrev N_is_worst_run : List Str := ["link", "contents", "value", "told"]
def den_is_worst_run : DL.Env → Out := (sCons (sExpr (fCall c_need_sound_contents (aCons (fVar 0) (aCons (fVar 1) aNil)))) (sCons (sSet 3 (fIf (fTru (fCall c_is_far_run (aCons (fVar 2) aNil))) (fCall c_far_gone (aCons (fVar 0) (aCons (fVar 1) (aCons (fVar 2) aNil)))) (fC .non))) (sRet (fAndV (fOp notN (fVar 3) (fC .non)) (fOp eqD (fCl lenF (aCons (fCall c_wrongs_of (aCons (fOp ixD (fVar 3) (fC (.int 1))) aNil)) aNil)) (fCall c_harm_of (aCons (fVar 0) (aCons (fVar 1) aNil))))))))
def c_is_worst_run : List D → R0 := defD N_is_worst_run 3 false den_is_worst_run
abbrev N_kinds_of : List Str := ["link"]
def den_kinds_of : DL.Env → Out := (sCons (sIf (fBl (fOp ltD (fOp ixD (fVar 0) (fC (.int 2))) (fOp ixD (fVar 0) (fC (.int 0))))) (sRet (fCl lstD (aCons (fC (.str (Str.ofString "lost"))) (aCons (fC (.str (Str.ofString "made"))) (aCons (fC (.str (Str.ofString "twice"))) aNil))))) sNil) (sRet (fIf (fBl (fOp ltD (fOp ixD (fVar 0) (fC (.int 3))) (fOp ixD (fVar 0) (fC (.int 1))))) (fCl lstD (aCons (fC (.str (Str.ofString "lost"))) (aCons (fC (.str (Str.ofString "made"))) aNil))) (fCl lstD aNil))))
def c_kinds_of : List D → R0 := defD N_kinds_of 1 true den_kinds_of
abbrev N_endless_kinds : List Str := ["link"]
def den_endless_kinds : DL.Env → Out := (sCons (sExpr (fCall c_need_link (aCons (fVar 0) aNil))) (sRet (fCall c_kinds_of (aCons (fVar 0) aNil))))
def c_endless_kinds : List D → R0 := defD N_endless_kinds 1 true den_endless_kinds
abbrev N_endless_of : List Str := ["link", "contents", "wrong"]
def den_endless_of : DL.Env → Out := (sCons (sExpr (fCall c_need_contents (aCons (fVar 0) (aCons (fVar 1) aNil)))) (sCons (sIf (fBl (fOp notInA (fVar 2) (fCl tupD (aCons (fC (.str (Str.ofString "lost"))) (aCons (fC (.str (Str.ofString "made"))) (aCons (fC (.str (Str.ofString "twice"))) aNil)))))) sBad sNil) (sRet (fIf (fBl (fOp inA (fVar 2) (fCall c_kinds_of (aCons (fVar 0) aNil)))) (fCall c_endless_from (aCons (fVar 0) (aCons (fVar 1) aNil))) (fC .non)))))
def c_endless_of : List D → R0 := defD N_endless_of 3 false den_endless_of
abbrev N_lap_of_a_copy : List Str := ["link", "bit", "many", "other", "old"]
def den_lap_of_a_copy : DL.Env → Out := (sCons (sPar3 2 3 4 (aCons (fOp ixD (fVar 0) (fC (.int 2))) (aCons (fOp subD (fC (.int 1)) (fVar 1)) (aCons (fCall c_copy_of (aCons (fVar 1) aNil)) aNil)))) (sRet (fOp catD (fOp addD (fOp addD (fOp addD (fOp addD (fOp addD (fOp addD (fCall c_often (aCons (fCl lstD (aCons (fCl tupD (aCons (fC (.str (Str.ofString "send"))) aNil)) aNil)) (aCons (fC (.int 1)) aNil))) (fCall c_right_turn (aCons (fVar 0) (aCons (fVar 1) aNil)))) (fCall c_sent_over (aCons (fVar 2) aNil))) (fCall c_often (aCons (fCl lstD (aCons (fCl tupD (aCons (fC (.str (Str.ofString "miss"))) (aCons (fVar 3) aNil))) aNil)) (aCons (fC (.int 1)) aNil)))) (fCall c_often (aCons (fCl lstD (aCons (fCl tupD (aCons (fC (.str (Str.ofString "double"))) (aCons (fVar 4) aNil))) (aCons (fCl tupD (aCons (fC (.str (Str.ofString "bring"))) (aCons (fVar 4) aNil))) aNil))) (aCons (fOp subD (fVar 2) (fC (.int 1))) aNil)))) (fCall c_often (aCons (fCl lstD (aCons (fCl tupD (aCons (fC (.str (Str.ofString "bring"))) (aCons (fVar 4) aNil))) aNil)) (aCons (fC (.int 1)) aNil)))) (fCall c_often (aCons (fCl lstD (aCons (fCl tupD (aCons (fC (.str (Str.ofString "miss"))) (aCons (fVar 1) aNil))) aNil)) (aCons (fC (.int 1)) aNil)))) (fCall c_right_turn (aCons (fVar 0) (aCons (fVar 3) aNil))))))
def c_lap_of_a_copy : List D → R0 := defD N_lap_of_a_copy 2 true den_lap_of_a_copy
abbrev N_lap_of_an_answer : List Str := ["link", "bit", "other"]
def den_lap_of_an_answer : DL.Env → Out := (sCons (sSet 2 (fOp subD (fC (.int 1)) (fVar 1))) (sRet (fOp catD (fOp addD (fOp addD (fOp addD (fOp addD (fCall c_sent_over (aCons (fOp addD (fOp ixD (fVar 0) (fC (.int 2))) (fC (.int 1))) aNil)) (fCall c_answered (aCons (fVar 1) (aCons (fOp ixD (fVar 0) (fC (.int 3))) aNil)))) (fCall c_right_turn (aCons (fVar 0) (aCons (fVar 2) aNil)))) (fCall c_often (aCons (fCl lstD (aCons (fCl tupD (aCons (fC (.str (Str.ofString "repeat"))) (aCons (fVar 1) aNil))) (aCons (fCl tupD (aCons (fC (.str (Str.ofString "hear"))) (aCons (fVar 1) aNil))) aNil))) (aCons (fOp subD (fOp ixD (fVar 0) (fC (.int 3))) (fC (.int 1))) aNil)))) (fCall c_often (aCons (fCl lstD (aCons (fCl tupD (aCons (fC (.str (Str.ofString "hear"))) (aCons (fVar 1) aNil))) aNil)) (aCons (fC (.int 1)) aNil)))) (fCall c_often (aCons (fCl lstD (aCons (fCl tupD (aCons (fC (.str (Str.ofString "send"))) aNil)) (aCons (fCl tupD (aCons (fC (.str (Str.ofString "bring"))) (aCons (fC (.str (Str.ofString "new"))) aNil))) (aCons (fCl tupD (aCons (fC (.str (Str.ofString "hear"))) (aCons (fVar 2) aNil))) aNil)))) (aCons (fOp ixD (fVar 0) (fC (.int 3))) aNil))))))
def c_lap_of_an_answer : List D → R0 := defD N_lap_of_an_answer 2 true den_lap_of_an_answer
abbrev N_behind_doubling : List Str := ["link", "contents", "event"]
def den_behind_doubling : DL.Env → Out := (sCons (sExpr (fCall c_need_contents (aCons (fVar 0) (aCons (fVar 1) aNil)))) (sCons (sIf (fOr (fNot (fTru (fCall c_is_listed (aCons (fVar 2) (aCons (fOp addD (fC g_EVENTS) (fC g_DOUBLINGS)) aNil))))) (fNot (fTru (fCall c_can_happen (aCons (fVar 0) (aCons (fVar 1) (aCons (fVar 2) aNil))))))) sBad sNil) (sRet (fCall c_moved (aCons (fVar 0) (aCons (fVar 1) (aCons (fVar 2) aNil)))))))
def c_behind_doubling : List D → R0 := defD N_behind_doubling 3 false den_behind_doubling
abbrev N_is_doubling_endless : List Str := ["link", "contents", "value", "far"]
def den_is_doubling_endless : DL.Env → Out := (sCons (sExpr (fCall c_need_contents (aCons (fVar 0) (aCons (fVar 1) aNil)))) (sCons (sIf (fOr (fNot (fTru (fCall c_is_tuple_of (aCons (fVar 2) (aCons (fC (.int 2)) aNil))))) (fNot (fTru (fCl allF (aCons (fLc [3] (fSeq (fVar 2)) (gN 3) tYesD (fCall c_is_far_of (aCons (fVar 3) (aCons (fOp addD (fC g_EVENTS) (fC g_DOUBLINGS)) aNil)))) aNil))))) (sRet (fC (.bl false))) sNil) (sRet (fCall c_goes_on (aCons (fVar 0) (aCons (fVar 1) (aCons (fOp ixD (fVar 2) (fC (.int 0))) (aCons (fOp ixD (fVar 2) (fC (.int 1))) aNil))))))))
def c_is_doubling_endless : List D → R0 := defD N_is_doubling_endless 3 false den_is_doubling_endless
abbrev N_doubling_run : List Str := ["link", "contents", "bit", "lap"]
def den_doubling_run : DL.Env → Out := (sCons (sExpr (fCall c_need_contents (aCons (fVar 0) (aCons (fVar 1) aNil)))) (sCons (sIf (fAnd (fBl (fOp eqD (fOp ixD (fVar 0) (fC (.int 0))) (fC (.int 1)))) (fBl (fOp eqD (fOp ixD (fVar 0) (fC (.int 1))) (fC (.int 1))))) (sRet (fC .non)) sNil) (sCons (sSet 2 (fOp subD (fC (.int 1)) (fOp ixD (fOp ixD (fVar 1) (fC (.int 0))) (fC (.int 0))))) (sCons (sSet 3 (fIf (fBl (fOp gtD (fOp ixD (fVar 0) (fC (.int 0))) (fC (.int 1)))) (fCall c_lap_of_a_copy (aCons (fVar 0) (aCons (fVar 2) aNil))) (fCall c_lap_of_an_answer (aCons (fVar 0) (aCons (fVar 2) aNil))))) (sRet (fCl tupD (aCons (fCall c_to_empty (aCons (fVar 0) (aCons (fVar 1) aNil))) (aCons (fVar 3) aNil))))))))
def c_doubling_run : List D → R0 := defD N_doubling_run 2 false den_doubling_run
abbrev N_quiet_turn : List Str := ["link", "contents", "handing"]
def den_quiet_turn : DL.Env → Out := (sCons (sIf (fBl (fOp eqD (fOp ixD (fOp ixD (fVar 1) (fC (.int 0))) (fC (.int 0))) (fOp ixD (fOp ixD (fVar 1) (fC (.int 1))) (fC (.int 0))))) (sRet (fCall c_to_ended (aCons (fVar 0) (aCons (fVar 1) aNil)))) sNil) (sCons (sSet 2 (fCall c_to_handed (aCons (fVar 0) (aCons (fVar 1) aNil)))) (sRet (fOp catD (fVar 2) (fCall c_to_ended (aCons (fVar 0) (aCons (fOp ixD (fCall c_far_gone (aCons (fVar 0) (aCons (fVar 1) (aCons (fVar 2) aNil)))) (fC (.int 0))) aNil)))))))
def c_quiet_turn : List D → R0 := defD N_quiet_turn 2 true den_quiet_turn
abbrev N_need_turns : List Str := ["link", "contents", "turns"]
def den_need_turns : DL.Env → Out := (sCons (sExpr (fCall c_need_contents (aCons (fVar 0) (aCons (fVar 1) aNil)))) (sCons (sIf (fNot (fTru (fCall c_is_count (aCons (fVar 2) aNil)))) sBad sNil) (sExpr (fCall c_need_sound (aCons (fVar 0) aNil)))))
def c_need_turns : List D → R0 := defD N_need_turns 3 false den_need_turns
abbrev N_quiet_run : List Str := ["link", "contents", "turns", "far", "_", "part"]
def p_quiet_run_0 : DL.Env → Out := (sExpr (fCall c_need_turns (aCons (fVar 0) (aCons (fVar 1) (aCons (fVar 2) aNil)))))
def p_quiet_run_1 : DL.Env → Out := (sSet 5 (fCall c_quiet_turn (aCons (fVar 0) (aCons (fVar 1) aNil))))
def p_quiet_run_2 : DL.Env → Out := (sSet 1 (fOp ixD (fCall c_far_gone (aCons (fVar 0) (aCons (fVar 1) (aCons (fVar 5) aNil)))) (fC (.int 0))))
def b_quiet_run_3 : DL.Env → Out := (sCons p_quiet_run_1 (sCons p_quiet_run_2 (sExt 3 (fVar 5))))
def p_quiet_run_4 : DL.Env → Out := (sFor (fL rng1D (aCons (fVar 2) aNil)) (gN 4) b_quiet_run_3)
def den_quiet_run : DL.Env → Out := (sCons p_quiet_run_0 (sCons (sSetO 3 (fCl lstD aNil)) (sCons p_quiet_run_4 (sRetV 3))))
def c_quiet_run : List D → R0 := defD N_quiet_run 3 true den_quiet_run
abbrev N_is_quiet_run : List Str := ["link", "contents", "turns", "value", "told"]
def den_is_quiet_run : DL.Env → Out := (sCons (sExpr (fCall c_need_turns (aCons (fVar 0) (aCons (fVar 1) (aCons (fVar 2) aNil))))) (sCons (sSet 4 (fIf (fTru (fCall c_is_far_run (aCons (fVar 3) aNil))) (fCall c_far_gone (aCons (fVar 0) (aCons (fVar 1) (aCons (fVar 3) aNil)))) (fC .non))) (sRet (fAndV (fOp notN (fVar 4) (fC .non)) (fAndV (fOp eqD (fCall c_turns_of (aCons (fOp ixD (fVar 4) (fC (.int 1))) aNil)) (fVar 2)) (fOp leD (fCl lenF (aCons (fCall c_wrongs_of (aCons (fOp ixD (fVar 4) (fC (.int 1))) aNil)) aNil)) (fCall c_must_of (aCons (fVar 1) aNil))))))))
def c_is_quiet_run : List D → R0 := defD N_is_quiet_run 4 false den_is_quiet_run
abbrev N_greatest_part : List Str := ["link", "parts", "place"]
def den_greatest_part : DL.Env → Out := (sCons (sSet 2 (fCl lenF (aCons (fVar 1) aNil))) (sCons (sIf (fBl (fOp eqD (fVar 2) (fC (.int 1)))) (sRet (fOp subD (fOp ixD (fVar 0) (fC (.int 3))) (fC (.int 1)))) sNil) (sCons (sIf (fBl (fOp eqD (fVar 2) (fC (.int 3)))) (sRet (fOp subD (fOp addD (fCall c_bare_lots (aCons (fVar 0) (aCons (fOp eqD (fOp ixD (fVar 1) (fC (.int 0))) (fOp ixD (fVar 1) (fC (.int 2)))) aNil))) (fOp ixD (fVar 0) (fC (.int 2)))) (fC (.int 2)))) sNil) (sCons (sIf (fBl (fOp gtD (fVar 2) (fC (.int 7)))) (sRet (fOp subD (fOp ixD (fVar 0) (fC (.int 1))) (fCl sumF (aCons (fSl (fVar 1) (pSome (fC (.int 8))) pNone) aNil)))) sNil) (sRet (fIf (fBl (fOp gtD (fVar 2) (fC (.int 4)))) (fOp subD (fOp ixD (fVar 0) (fC (.int 0))) (fCl sumF (aCons (fSl (fVar 1) (pSome (fC (.int 5))) pNone) aNil))) (fC (.int 1))))))))
def c_greatest_part : List D → R0 := defD N_greatest_part 2 false den_greatest_part
abbrev N_needed_copies : List Str := ["link", "parts"]
def den_needed_copies : DL.Env → Out := (sRet (fOp subD (fOp ixD (fVar 0) (fC (.int 2))) (fCl maxF (aCons (fC (.int 0)) (aCons (fOp addD (fOp subD (fOp ixD (fVar 1) (fC (.int 3))) (fCall c_bare_lots (aCons (fVar 0) (aCons (fOp eqD (fOp ixD (fVar 1) (fC (.int 0))) (fOp ixD (fVar 1) (fC (.int 2)))) aNil)))) (fC (.int 1))) aNil)))))
def c_needed_copies : List D → R0 := defD N_needed_copies 2 false den_needed_copies
abbrev N_turning_part : List Str := ["link", "parts", "place"]
def den_turning_part : DL.Env → Out := (sCons (sSet 2 (fCl lenF (aCons (fVar 1) aNil))) (sCons (sIf (fBl (fOp eqD (fVar 2) (fC (.int 1)))) (sRet (fOp subD (fOp ixD (fVar 0) (fC (.int 3))) (fOp ixD (fVar 0) (fC (.int 1))))) sNil) (sCons (sIf (fBl (fOp eqD (fVar 2) (fC (.int 3)))) (sRet (fOp subD (fOp subD (fOp addD (fCall c_bare_lots (aCons (fVar 0) (aCons (fOp eqD (fOp ixD (fVar 1) (fC (.int 0))) (fOp ixD (fVar 1) (fC (.int 2)))) aNil))) (fOp ixD (fVar 0) (fC (.int 2)))) (fOp ixD (fVar 0) (fC (.int 0)))) (fC (.int 1)))) sNil) (sCons (sIf (fBl (fOp gtD (fVar 2) (fC (.int 7)))) (sRet (fOp subD (fOp ixD (fVar 0) (fC (.int 3))) (fOp ixD (fVar 1) (fC (.int 1))))) sNil) (sRet (fIf (fBl (fOp gtD (fVar 2) (fC (.int 4)))) (fCall c_needed_copies (aCons (fVar 0) (aCons (fVar 1) aNil))) (fC (.int 1))))))))
def c_turning_part : List D → R0 := defD N_turning_part 2 false den_turning_part
abbrev N_can_suffice : List Str := ["counts", "place", "room", "need"]
def den_can_suffice : DL.Env → Out := (sCons (sIf (fBl (fOp ltD (fVar 1) (fCl lenF (aCons (fVar 0) aNil)))) (sRet (fCl tupD (aCons (fOp geD (fOp ixD (fVar 0) (fVar 1)) (fVar 3)) aNil))) sNil) (sRet (fIf (fBl (fOp geD (fOp subD (fVar 2) (fCl sumF (aCons (fVar 0) aNil))) (fVar 3))) (fC g_EITHER) (fCl tupD (aCons (fC (.bl false)) aNil)))))
def c_can_suffice : List D → R0 := defD N_can_suffice 4 false den_can_suffice
abbrev N_can_be : List Str := ["link", "wanted", "parts", "place", "answers", "evens", "old", "dones", "even", "done", "enough_answers", "enough_old"]
def p_can_be_0 : DL.Env → Out := (sSet 4 (fIf (fBl (fOp gtD (fVar 3) (fC (.int 1)))) (fCall c_can_suffice (aCons (fSl (fVar 2) (pSome (fC (.int 8))) pNone) (aCons (fOp ixD (fVar 2) (fC (.int 0))) (aCons (fOp ixD (fVar 0) (fC (.int 1))) (aCons (fOp subD (fOp ixD (fVar 0) (fC (.int 3))) (fOp ixD (fVar 2) (fC (.int 1)))) aNil))))) (fC g_EITHER)))
def p_can_be_1 : DL.Env → Out := (sSet 5 (fIf (fBl (fOp gtD (fVar 3) (fC (.int 2)))) (fCl tupD (aCons (fOp eqD (fOp ixD (fVar 2) (fC (.int 0))) (fOp ixD (fVar 2) (fC (.int 2)))) aNil)) (fC g_EITHER)))
def p_can_be_2 : DL.Env → Out := (sSet 6 (fIf (fBl (fOp gtD (fVar 3) (fC (.int 3)))) (fCall c_can_suffice (aCons (fSl (fVar 2) (pSome (fC (.int 5))) (pSome (fC (.int 8)))) (aCons (fOp subD (fC (.int 2)) (fOp ixD (fVar 2) (fC (.int 2)))) (aCons (fOp ixD (fVar 0) (fC (.int 0))) (aCons (fCall c_needed_copies (aCons (fVar 0) (aCons (fVar 2) aNil))) aNil))))) (fC g_EITHER)))
def p_can_be_3 : DL.Env → Out := (sSet 7 (fIf (fBl (fOp gtD (fVar 3) (fC (.int 4)))) (fCl tupD (aCons (fOp eqD (fOp ixD (fVar 2) (fC (.int 4))) (fC (.int 1))) aNil)) (fC g_EITHER)))
def p_can_be_4 : DL.Env → Out := (sIf (fBl (fOp inA (fCall c_harm_by (aCons (fVar 8) (aCons (fVar 9) (aCons (fVar 10) (aCons (fVar 11) aNil))))) (fVar 1))) (sRet (fC (.bl true))) sNil)
def b_can_be_5 : DL.Env → Out := p_can_be_4
def p_can_be_6 : DL.Env → Out := (sFor (fSeq (fVar 6)) (gN 11) b_can_be_5)
def b_can_be_7 : DL.Env → Out := p_can_be_6
def p_can_be_8 : DL.Env → Out := (sFor (fSeq (fVar 4)) (gN 10) b_can_be_7)
def b_can_be_9 : DL.Env → Out := p_can_be_8
def p_can_be_10 : DL.Env → Out := (sFor (fSeq (fVar 7)) (gN 9) b_can_be_9)
def b_can_be_11 : DL.Env → Out := p_can_be_10
def p_can_be_12 : DL.Env → Out := (sFor (fSeq (fVar 5)) (gN 8) b_can_be_11)
def den_can_be : DL.Env → Out := (sCons (sSet 3 (fCl lenF (aCons (fVar 2) aNil))) (sCons p_can_be_0 (sCons p_can_be_1 (sCons p_can_be_2 (sCons p_can_be_3 (sCons p_can_be_12 (sRet (fC (.bl false)))))))))
def c_can_be : List D → R0 := defD N_can_be 3 false den_can_be
abbrev N_least_part : List Str := ["link", "wanted", "parts", "least", "most", "part"]
def p_least_part_0 : DL.Env → Out := (sSet 4 (fCall c_greatest_part (aCons (fVar 0) (aCons (fVar 2) aNil))))
def p_least_part_1 : DL.Env → Out := (sIf (fAnd (fBl (fOp leD (fVar 5) (fVar 4))) (fTru (fCall c_can_be (aCons (fVar 0) (aCons (fVar 1) (aCons (fOp addD (fVar 2) (fCl tupD (aCons (fVar 5) aNil))) aNil)))))) (sRet (fVar 5)) sNil)
def b_least_part_2 : DL.Env → Out := p_least_part_1
def p_least_part_3 : DL.Env → Out := (sFor (fSeq (fCl tupD (aCons (fVar 3) (aCons (fCl maxF (aCons (fOp addD (fVar 3) (fC (.int 1))) (aCons (fCall c_turning_part (aCons (fVar 0) (aCons (fVar 2) aNil))) aNil))) aNil)))) (gN 5) b_least_part_2)
def den_least_part : DL.Env → Out := (sCons p_least_part_0 (sCons p_least_part_3 (sRet (fC .non))))
def c_least_part : List D → R0 := defD N_least_part 4 false den_least_part
abbrev N_backs_of : List Str := ["link", "seen", "zeros", "ones"]
def den_backs_of : DL.Env → Out := (sCons (sIf (fBl (fOp notN (fVar 1) (fC .non))) (sRet (fCl lstD (aCons (fVar 1) aNil))) sNil) (sRet (fLc2 [2, 3] [3] (fL rng1D (aCons (fOp addD (fOp ixD (fVar 0) (fC (.int 1))) (fC (.int 1))) aNil)) (gN 2) tYesD (fL rng1D (aCons (fOp subD (fOp addD (fOp ixD (fVar 0) (fC (.int 1))) (fC (.int 1))) (fVar 2)) aNil)) (gN 3) tYesD (fCl tupD (aCons (fVar 2) (aCons (fVar 3) aNil))))))
def c_backs_of : List D → R0 := defD N_backs_of 2 true den_backs_of
abbrev N_weight_of : List Str := ["link", "contents", "_", "heard", "lot", "there", "back"]
def den_weight_of : DL.Env → Out := (sCons (sExpr (fCall c_need_contents (aCons (fVar 0) (aCons (fVar 1) aNil)))) (sCons (sAsg (fVar 1) (gTupD 4 (gConsD (gTupD 2 (gConsD (gN 2) (gConsD (gN 3) gNilD))) (gConsD (gTupD 3 (gConsD (gN 2) (gConsD (gN 4) (gConsD (gN 2) gNilD)))) (gConsD (gN 5) (gConsD (gN 6) gNilD)))))) (sRet (fOp addD (fOp addD (fOp addD (fVar 3) (fIf (fBl (fOp isN (fVar 4) (fC .non))) (fC (.int 0)) (fOp ixD (fVar 4) (fC (.int 1))))) (fCl sumF (aCons (fVar 5) aNil))) (fCl sumF (aCons (fVar 6) aNil))))))
def c_weight_of : List D → R0 := defD N_weight_of 2 false den_weight_of
abbrev N_least_weights : List Str := ["link"]
def den_least_weights : DL.Env → Out := (sCons (sExpr (fCall c_need_link (aCons (fVar 0) aNil))) (sCons (sExpr (fCall c_need_sound (aCons (fVar 0) aNil))) (sRet (fCl lstD (aCons (fC (.int 0)) (aCons (fC (.int 0)) (aCons (fCl minLF (aCons (fSl (fVar 0) (pSome (fC (.int 2))) pNone) aNil)) (aCons (fOp addD (fOp ixD (fVar 0) (fC (.int 2))) (fOp ixD (fVar 0) (fC (.int 3)))) aNil))))))))
def c_least_weights : List D → R0 := defD N_least_weights 1 true den_least_weights
abbrev N_is_mending : List Str := ["link", "contents", "value"]
def den_is_mending : DL.Env → Out := (sCons (sExpr (fCall c_need_contents (aCons (fVar 0) (aCons (fVar 1) aNil)))) (sRet (fCall c_is_mending_of (aCons (fVar 1) (aCons (fVar 2) aNil)))))
def c_is_mending : List D → R0 := defD N_is_mending 3 false den_is_mending
abbrev N_cost_of : List Str := ["link", "contents", "mending"]
def den_cost_of : DL.Env → Out := (sCons (sExpr (fCall c_need_mending (aCons (fVar 0) (aCons (fVar 1) (aCons (fVar 2) aNil))))) (sRet (fCall c_price_of (aCons (fVar 2) aNil))))
def c_cost_of : List D → R0 := defD N_cost_of 3 false den_cost_of
abbrev N_greatest_cost : List Str := ["link", "most", "full_there", "full_back"]
def den_greatest_cost : DL.Env → Out := (sCons (sExpr (fCall c_need_link (aCons (fVar 0) aNil))) (sCons (sExpr (fCall c_need_most (aCons (fVar 1) aNil))) (sCons (sExpr (fCall c_need_sound (aCons (fVar 0) aNil))) (sCons (sPar2 2 3 (aCons (fOp eqD (fOp ixD (fVar 0) (fC (.int 2))) (fOp ixD (fVar 0) (fC (.int 0)))) (aCons (fAndV (fOp eqD (fOp ixD (fVar 0) (fC (.int 3))) (fOp ixD (fVar 0) (fC (.int 1)))) (fOp gtD (fOp ixD (fVar 0) (fC (.int 3))) (fC (.int 1)))) aNil))) (sCons (sIf (fBl (fOp eqD (fVar 1) (fC (.int 0)))) (sRet (fOp addD (fOp addD (fC (.int 2)) (fIf (fTru (fVar 2)) (fC (.int 1)) (fC (.int 0)))) (fIf (fTru (fVar 3)) (fC (.int 1)) (fC (.int 0))))) sNil) (sCons (sIf (fBl (fOp eqD (fVar 1) (fC (.int 1)))) (sRet (fIf (fAnd (fTru (fVar 2)) (fTru (fVar 3))) (fC (.int 2)) (fC (.int 1)))) sNil) (sRet (fIf (fBl (fOp eqD (fVar 1) (fC (.int 2)))) (fC (.int 1)) (fC (.int 0))))))))))
def c_greatest_cost : List D → R0 := defD N_greatest_cost 2 false den_greatest_cost
abbrev N_is_cheapest : List Str := ["link", "contents", "most", "value"]
def den_is_cheapest : DL.Env → Out := (sCons (sExpr (fCall c_need_to_mend (aCons (fVar 0) (aCons (fVar 1) (aCons (fVar 2) aNil))))) (sRet (fAndV (fCall c_is_mending_of (aCons (fVar 1) (aCons (fVar 3) aNil))) (fOp inA (fVar 3) (fCall c_cheapest_of (aCons (fVar 0) (aCons (fVar 1) (aCons (fVar 2) aNil))))))))
def c_is_cheapest : List D → R0 := defD N_is_cheapest 4 false den_is_cheapest
abbrev N_dearer_events : List Str := ["link", "contents", "least", "event"]
def den_dearer_events : DL.Env → Out := (sCons (sExpr (fCall c_need_sound_contents (aCons (fVar 0) (aCons (fVar 1) aNil)))) (sCons (sSet 2 (fCall c_least_cost (aCons (fVar 0) (aCons (fVar 1) (aCons (fC (.int 0)) aNil))))) (sRet (fLc [3] (fSeq (fCall c_events_of (aCons (fVar 0) (aCons (fVar 1) aNil)))) (gN 3) (fBl (fOp gtD (fCall c_least_cost (aCons (fVar 0) (aCons (fCall c_moved (aCons (fVar 0) (aCons (fVar 1) (aCons (fVar 3) aNil)))) (aCons (fC (.int 0)) aNil)))) (fVar 2))) (fVar 3)))))
def c_dearer_events : List D → R0 := defD N_dearer_events 2 true den_dearer_events
abbrev N_words_and_harms : List Str := ["link", "contents", "words"]
def den_words_and_harms : DL.Env → Out := (sRet (fLc [2] (fSeq (fC g_WORD_LISTS)) (gN 2) tYesD (fCl tupD (aCons (fCl lstF (aCons (fVar 2) aNil)) (aCons (fCall c_harm_of (aCons (fVar 0) (aCons (fCall c_by_words (aCons (fVar 1) (aCons (fVar 2) aNil))) aNil))) aNil)))))
def c_words_and_harms : List D → R0 := defD N_words_and_harms 2 true den_words_and_harms
abbrev N_taking_cost : List Str := ["link", "contents", "most", "costs", "taking"]
def den_taking_cost : DL.Env → Out := (sCons (sExpr (fCall c_need_to_mend (aCons (fVar 0) (aCons (fVar 1) (aCons (fVar 2) aNil))))) (sCons (sSet 3 (fLc [4] (fSeq (fCall c_takings_of (aCons (fVar 0) (aCons (fVar 1) aNil)))) (gN 4) (fBl (fOp leD (fCall c_harm_of (aCons (fVar 0) (aCons (fCall c_by_taking (aCons (fVar 1) (aCons (fVar 4) aNil))) aNil))) (fVar 2))) (fCl sumF (aCons (fVar 4) aNil)))) (sRet (fCl minLF (aCons (fVar 3) aNil)))))
def c_taking_cost : List D → R0 := defD N_taking_cost 3 false den_taking_cost
abbrev N_how_many_takings : List Str := ["link", "contents", "most", "sent", "own", "old", "back", "even", "done", "_", "answered", "copied", "answers", "copies", "found", "by_answers", "by_old"]
def den_how_many_takings : DL.Env → Out := (sCons (sExpr (fCall c_need_to_mend (aCons (fVar 0) (aCons (fVar 1) (aCons (fVar 2) aNil))))) (sCons (sAsg (fCl tupD (aCons (fOp ixD (fOp ixD (fVar 1) (fC (.int 0))) (fC (.int 0))) (aCons (fOp ixD (fOp ixD (fVar 1) (fC (.int 1))) (fC (.int 0))) (aCons (fSl (fOp ixD (fVar 1) (fC (.int 2))) (pSome (fC (.int 1))) pNone) (aCons (fOp ixD (fVar 1) (fC (.int 3))) aNil))))) (gTupD 4 (gConsD (gN 3) (gConsD (gN 4) (gConsD (gN 5) (gConsD (gN 6) gNilD)))))) (sCons (sAsg (fCall c_signs_of (aCons (fVar 0) (aCons (fVar 1) aNil))) (gTupD 4 (gConsD (gN 7) (gConsD (gN 8) (gConsD (gN 9) (gConsD (gN 9) gNilD)))))) (sCons (sAsg (fCall c_surplus (aCons (fVar 0) (aCons (fVar 1) aNil))) (gTupD 2 (gConsD (gN 10) (gConsD (gN 11) gNilD)))) (sCons (sAsg (fCl tupD (aCons (fCl tupD (aCons (fVar 10) (aCons (fOp addD (fOp ixD (fVar 6) (fVar 3)) (fC (.int 1))) aNil))) (aCons (fCl tupD (aCons (fVar 11) (aCons (fOp addD (fOp ixD (fVar 5) (fOp subD (fC (.int 1)) (fVar 4))) (fC (.int 1))) aNil))) aNil))) (gTupD 2 (gConsD (gN 12) (gConsD (gN 13) gNilD)))) (sCons (sSet 14 (fCl sumF (aCons (fLc2 [15, 16] [16] (fSeq (fC g_EITHER)) (gN 15) tYesD (fSeq (fC g_EITHER)) (gN 16) (fBl (fOp leD (fCall c_harm_by (aCons (fVar 7) (aCons (fVar 8) (aCons (fVar 15) (aCons (fVar 16) aNil))))) (fVar 2))) (fOp mulD (fCall c_of_pair (aCons (fVar 12) (aCons (fVar 15) aNil))) (fCall c_of_pair (aCons (fVar 13) (aCons (fVar 16) aNil))))) aNil))) (sRet (fOp mulD (fOp mulD (fVar 14) (fOp addD (fOp ixD (fVar 6) (fOp subD (fC (.int 1)) (fVar 3))) (fC (.int 1)))) (fOp addD (fOp ixD (fVar 5) (fVar 4)) (fC (.int 1)))))))))))
def c_how_many_takings : List D → R0 := defD N_how_many_takings 3 false den_how_many_takings
abbrev N_harm_by_words : List Str := ["link", "contents"]
def den_harm_by_words : DL.Env → Out := (sCons (sExpr (fCall c_need_sound_contents (aCons (fVar 0) (aCons (fVar 1) aNil)))) (sRet (fCall c_words_and_harms (aCons (fVar 0) (aCons (fVar 1) aNil)))))
def c_harm_by_words : List D → R0 := defD N_harm_by_words 2 true den_harm_by_words
abbrev N_words_for : List Str := ["link", "contents", "most", "enough", "words", "many"]
def den_words_for : DL.Env → Out := (sCons (sExpr (fCall c_need_to_mend (aCons (fVar 0) (aCons (fVar 1) (aCons (fVar 2) aNil))))) (sCons (sSet 3 (fLc [4, 5] (fSeq (fCall c_words_and_harms (aCons (fVar 0) (aCons (fVar 1) aNil)))) (gTupD 2 (gConsD (gN 4) (gConsD (gN 5) gNilD))) (fBl (fOp leD (fVar 5) (fVar 2))) (fVar 4))) (sRet (fCl minLF (aCons (fVar 3) aNil)))))
def c_words_for : List D → R0 := defD N_words_for 3 false den_words_for
abbrev N_fits_view : List Str := ["contents", "view", "seen", "told"]
def den_fits_view : DL.Env → Out := (sRet (fCl allF (aCons (fLc [2, 3] (fL zipD (aCons (fVar 1) (aCons (fCall c_seen_of (aCons (fVar 0) aNil)) aNil))) (gTupD 2 (gConsD (gN 2) (gConsD (gN 3) gNilD))) tYesD (fOrV (fOp isN (fVar 2) (fC .non)) (fOp eqD (fVar 2) (fVar 3)))) aNil)))
def c_fits_view : List D → R0 := defD N_fits_view 2 false den_fits_view
abbrev N_are_places : List Str := ["value", "place", "further"]
def den_are_places : DL.Env → Out := (sCons (sIf (fOr (fNot (fTru (fCl isiF (aCons (fVar 0) (aCons (fC (.opq (.ty "list"))) aNil))))) (fNot (fTru (fCl allF (aCons (fLc [1] (fSeq (fVar 0)) (gN 1) tYesD (fAndV (fCall c_is_count (aCons (fVar 1) aNil)) (fOp ltD (fVar 1) (fC (.int 4))))) aNil))))) (sRet (fC (.bl false))) sNil) (sRet (fCl allF (aCons (fLc [1, 2] (fL zipD (aCons (fVar 0) (aCons (fSl (fVar 0) (pSome (fC (.int 1))) pNone) aNil))) (gTupD 2 (gConsD (gN 1) (gConsD (gN 2) gNilD))) tYesD (fOp ltD (fVar 1) (fVar 2))) aNil))))
def c_are_places : List D → R0 := defD N_are_places 1 false den_are_places
abbrev N_is_view : List Str := ["link", "value"]
def den_is_view : DL.Env → Out := (sCons (sExpr (fCall c_need_link (aCons (fVar 0) aNil))) (sRet (fCall c_is_view_of (aCons (fVar 0) (aCons (fVar 1) aNil)))))
def c_is_view : List D → R0 := defD N_is_view 2 false den_is_view
abbrev N_covered : List Str := ["link", "view", "places", "place", "seen"]
def den_covered : DL.Env → Out := (sCons (sExpr (fCall c_need_link (aCons (fVar 0) aNil))) (sCons (sExpr (fCall c_need_view (aCons (fVar 0) (aCons (fVar 1) aNil)))) (sCons (sIf (fNot (fTru (fCall c_are_places (aCons (fVar 2) aNil)))) sBad sNil) (sRet (fCl tupF (aCons (fLc [3, 4] (fL enumD (aCons (fVar 1) aNil)) (gTupD 2 (gConsD (gN 3) (gConsD (gN 4) gNilD))) tYesD (fIf (fBl (fOp inA (fVar 3) (fVar 2))) (fC .non) (fVar 4))) aNil))))))
def c_covered : List D → R0 := defD N_covered 3 false den_covered
abbrev N_looks_so : List Str := ["link", "contents", "view"]
def den_looks_so : DL.Env → Out := (sCons (sExpr (fCall c_need_contents (aCons (fVar 0) (aCons (fVar 1) aNil)))) (sCons (sExpr (fCall c_need_view (aCons (fVar 0) (aCons (fVar 2) aNil)))) (sRet (fCall c_fits_view (aCons (fVar 1) (aCons (fVar 2) aNil))))))
def c_looks_so : List D → R0 := defD N_looks_so 3 false den_looks_so
abbrev N_faults_for : List Str := ["link", "bits", "turns", "heards", "lots", "kind", "bit", "copy", "many"]
def den_faults_for : DL.Env → Out := (sCons (sSet 1 (fLc2 [5, 6] [6] (fSeq (fCl tupD (aCons (fC (.str (Str.ofString "answer"))) (aCons (fC (.str (Str.ofString "copy"))) (aCons (fC (.str (Str.ofString "swap"))) aNil))))) (gN 5) tYesD (fSeq (fCl tupD (aCons (fC (.int 0)) (aCons (fC (.int 1)) aNil)))) (gN 6) tYesD (fCl tupD (aCons (fVar 5) (aCons (fVar 6) aNil))))) (sCons (sSet 2 (fLc [7] (fSeq (fC g_COPIES)) (gN 7) tYesD (fCl tupD (aCons (fC (.str (Str.ofString "turn"))) (aCons (fVar 7) aNil))))) (sCons (sSet 3 (fLc [8] (fSeq (fIf (fBl (fOp gtD (fOp ixD (fVar 0) (fC (.int 3))) (fC (.int 1)))) (fCl lstD (aCons (fC (.int 0)) (aCons (fOp subD (fOp ixD (fVar 0) (fC (.int 3))) (fC (.int 1))) aNil))) (fCl lstD (aCons (fC (.int 0)) aNil)))) (gN 8) tYesD (fCl tupD (aCons (fC (.str (Str.ofString "heard"))) (aCons (fVar 8) aNil))))) (sCons (sSet 4 (fLc [8] (fSeq (fIf (fBl (fOp gtD (fOp ixD (fVar 0) (fC (.int 2))) (fC (.int 1)))) (fCl lstD (aCons (fC (.int 0)) (aCons (fOp subD (fOp ixD (fVar 0) (fC (.int 2))) (fC (.int 1))) aNil))) (fCl lstD (aCons (fC (.int 0)) aNil)))) (gN 8) tYesD (fCl tupD (aCons (fC (.str (Str.ofString "lot"))) (aCons (fVar 8) aNil))))) (sRet (fCl sort2F (aCons (fOp addD (fOp addD (fOp addD (fOp addD (fVar 1) (fVar 2)) (fVar 3)) (fVar 4)) (fCl lstD (aCons (fCl tupD (aCons (fC (.str (Str.ofString "receiver"))) aNil)) (aCons (fCl tupD (aCons (fC (.str (Str.ofString "sender"))) aNil)) aNil)))) aNil)))))))
def c_faults_for : List D → R0 := defD N_faults_for 1 true den_faults_for
abbrev N_faults_befalling : List Str := ["link", "contents", "fault"]
def den_faults_befalling : DL.Env → Out := (sRet (fLc [2] (fSeq (fCall c_faults_for (aCons (fVar 0) aNil))) (gN 2) (fTru (fCall c_can_befall_them (aCons (fVar 0) (aCons (fVar 1) (aCons (fVar 2) aNil))))) (fVar 2)))
def c_faults_befalling : List D → R0 := defD N_faults_befalling 2 true den_faults_befalling
abbrev N_can_befall : List Str := ["link", "contents", "value"]
def den_can_befall : DL.Env → Out := (sCons (sExpr (fCall c_need_contents (aCons (fVar 0) (aCons (fVar 1) aNil)))) (sRet (fAndV (fCall c_is_fault (aCons (fVar 2) aNil)) (fCall c_can_befall_them (aCons (fVar 0) (aCons (fVar 1) (aCons (fVar 2) aNil)))))))
def c_can_befall : List D → R0 := defD N_can_befall 3 false den_can_befall
abbrev N_faults_of : List Str := ["link", "contents"]
def den_faults_of : DL.Env → Out := (sCons (sExpr (fCall c_need_contents (aCons (fVar 0) (aCons (fVar 1) aNil)))) (sRet (fCall c_faults_befalling (aCons (fVar 0) (aCons (fVar 1) aNil)))))
def c_faults_of : List D → R0 := defD N_faults_of 2 true den_faults_of
abbrev N_worth_of : List Str := ["link", "kind"]
def den_worth_of : DL.Env → Out := (sCons (sIf (fBl (fOp eqD (fVar 1) (fC (.str (Str.ofString "sender"))))) (sRet (fC (.int 3))) sNil) (sCons (sIf (fBl (fOp eqD (fVar 1) (fC (.str (Str.ofString "receiver"))))) (sRet (fC (.int 1))) sNil) (sRet (fIf (fOr (fAnd (fBl (fOp eqD (fVar 1) (fC (.str (Str.ofString "heard"))))) (fBl (fOp eqD (fOp ixD (fVar 0) (fC (.int 3))) (fC (.int 1))))) (fAnd (fBl (fOp eqD (fVar 1) (fC (.str (Str.ofString "lot"))))) (fBl (fOp eqD (fOp ixD (fVar 0) (fC (.int 2))) (fC (.int 1)))))) (fC (.int 0)) (fC (.int 2))))))
def c_worth_of : List D → R0 := defD N_worth_of 2 false den_worth_of
abbrev N_worth : List Str := ["link", "kind"]
def den_worth : DL.Env → Out := (sCons (sExpr (fCall c_need_link (aCons (fVar 0) aNil))) (sCons (sIf (fBl (fOp notInA (fVar 1) (fC g_KINDS))) sBad sNil) (sCons (sExpr (fCall c_need_sound (aCons (fVar 0) aNil))) (sRet (fCall c_worth_of (aCons (fVar 0) (aCons (fVar 1) aNil)))))))
def c_worth : List D → R0 := defD N_worth 2 false den_worth
abbrev N_worst_fault : List Str := ["link", "contents", "found", "rises", "fault"]
def den_worst_fault : DL.Env → Out := (sCons (sExpr (fCall c_need_sound_contents (aCons (fVar 0) (aCons (fVar 1) aNil)))) (sCons (sSet 2 (fCall c_faults_befalling (aCons (fVar 0) (aCons (fVar 1) aNil)))) (sCons (sSet 3 (fLc [4] (fSeq (fVar 2)) (gN 4) tYesD (fCall c_rise_of (aCons (fVar 0) (aCons (fVar 1) (aCons (fVar 4) aNil)))))) (sRet (fOp ixD (fVar 2) (fIdxL (fVar 3) (fCl maxLF (aCons (fVar 3) aNil))))))))
def c_worst_fault : List D → R0 := defD N_worst_fault 2 false den_worst_fault
abbrev N_is_fault_among : List Str := ["item"]
def den_is_fault_among : DL.Env → Out := (sRet (fCl isiF (aCons (fOp ixD (fVar 0) (fC (.int 0))) (aCons (fC (.opq (.ty "str"))) aNil))))
def c_is_fault_among : List D → R0 := defD N_is_fault_among 1 false den_is_fault_among
abbrev N_item_told : List Str := ["link", "contents", "item"]
def den_item_told : DL.Env → Out := (sCons (sIf (fNot (fTru (fCall c_is_fault_among (aCons (fVar 2) aNil)))) (sRet (fCall c_item_gone (aCons (fVar 0) (aCons (fVar 1) (aCons (fOp ixD (fVar 2) (fC (.int 0))) (aCons (fOp ixD (fVar 2) (fC (.int 1))) aNil)))))) sNil) (sRet (fIf (fTru (fCall c_can_befall_them (aCons (fVar 0) (aCons (fVar 1) (aCons (fVar 2) aNil))))) (fCl tupD (aCons (fCall c_behind_fault (aCons (fVar 1) (aCons (fVar 2) aNil))) (aCons (fCl lstD aNil) aNil))) (fC .non))))
def c_item_told : List D → R0 := defD N_item_told 3 false den_item_told
abbrev N_legs_of : List Str := ["link", "contents", "value", "legs", "item", "told"]
def p_legs_of_0 : DL.Env → Out := (sIf (fOr (fNot (fTru (fCl isiF (aCons (fVar 2) (aCons (fC (.opq (.ty "list"))) aNil))))) (fNot (fTru (fCl allF (aCons (fLc [4] (fSeq (fVar 2)) (gN 4) tYesD (fOrV (fCall c_is_item_of (aCons (fVar 4) (aCons (fC g_EVENTS) aNil))) (fCall c_is_fault (aCons (fVar 4) aNil)))) aNil))))) (sRet (fC .non)) sNil)
def p_legs_of_1 : DL.Env → Out := (sSet 5 (fCall c_item_told (aCons (fVar 0) (aCons (fVar 1) (aCons (fVar 4) aNil)))))
def p_legs_of_2 : DL.Env → Out := (sIf (fBl (fOp isN (fVar 5) (fC .non))) (sRet (fC .non)) sNil)
def p_legs_of_3 : DL.Env → Out := (sApp 3 (fOp addD (fCl tupD (aCons (fVar 1) aNil)) (fVar 5)))
def b_legs_of_4 : DL.Env → Out := (sCons p_legs_of_1 (sCons p_legs_of_2 (sCons p_legs_of_3 (sSet 1 (fOp ixD (fVar 5) (fC (.int 0)))))))
def p_legs_of_5 : DL.Env → Out := (sFor (fSeq (fVar 2)) (gN 4) b_legs_of_4)
def den_legs_of : DL.Env → Out := (sCons p_legs_of_0 (sCons (sSetO 3 (fCl lstD aNil)) (sCons p_legs_of_5 (sRet (fVar 3)))))
def c_legs_of : List D → R0 := defD N_legs_of 3 false den_legs_of
abbrev N_wrongs_in : List Str := ["legs", "_", "marks", "wrong"]
def den_wrongs_in : DL.Env → Out := (sRet (fLc2 [1, 1, 2, 3] [3] (fSeq (fVar 0)) (gTupD 3 (gConsD (gN 1) (gConsD (gN 1) (gConsD (gN 2) gNilD)))) tYesD (fSeq (fCall c_wrongs_of (aCons (fVar 2) aNil))) (gN 3) tYesD (fVar 3)))
def c_wrongs_in : List D → R0 := defD N_wrongs_in 1 true den_wrongs_in
abbrev N_need_faulty : List Str := ["link", "contents", "items", "legs"]
def den_need_faulty : DL.Env → Out := (sCons (sExpr (fCall c_need_contents (aCons (fVar 0) (aCons (fVar 1) aNil)))) (sCons (sSet 3 (fCall c_legs_of (aCons (fVar 0) (aCons (fVar 1) (aCons (fVar 2) aNil))))) (sCons (sIf (fBl (fOp isN (fVar 3) (fC .non))) sBad sNil) (sCons (sExpr (fCall c_need_sound (aCons (fVar 0) aNil))) (sRet (fVar 3))))))
def c_need_faulty : List D → R0 := defD N_need_faulty 3 false den_need_faulty
abbrev N_is_faulty_run : List Str := ["link", "contents", "value"]
def den_is_faulty_run : DL.Env → Out := (sCons (sExpr (fCall c_need_sound_contents (aCons (fVar 0) (aCons (fVar 1) aNil)))) (sRet (fOp notN (fCall c_legs_of (aCons (fVar 0) (aCons (fVar 1) (aCons (fVar 2) aNil)))) (fC .non))))
def c_is_faulty_run : List D → R0 := defD N_is_faulty_run 3 false den_is_faulty_run
abbrev N_faulty_after : List Str := ["link", "contents", "items", "legs"]
def den_faulty_after : DL.Env → Out := (sCons (sSet 3 (fCall c_need_faulty (aCons (fVar 0) (aCons (fVar 1) (aCons (fVar 2) aNil))))) (sRet (fIf (fTru (fVar 3)) (fOp ixD (fOp ixD (fVar 3) (fUn negD (fC (.int 1)))) (fC (.int 1))) (fVar 1))))
def c_faulty_after : List D → R0 := defD N_faulty_after 3 false den_faulty_after
abbrev N_faulty_wrong : List Str := ["link", "contents", "items"]
def den_faulty_wrong : DL.Env → Out := (sRet (fCall c_wrongs_in (aCons (fCall c_need_faulty (aCons (fVar 0) (aCons (fVar 1) (aCons (fVar 2) aNil)))) aNil)))
def c_faulty_wrong : List D → R0 := defD N_faulty_wrong 3 true den_faulty_wrong
abbrev N_budget : List Str := ["link", "contents", "items", "legs", "rises", "leg", "item"]
def den_budget : DL.Env → Out := (sCons (sSet 3 (fCall c_need_faulty (aCons (fVar 0) (aCons (fVar 1) (aCons (fVar 2) aNil))))) (sCons (sSet 4 (fLc [5, 6] (fL zipD (aCons (fVar 3) (aCons (fVar 2) aNil))) (gTupD 2 (gConsD (gN 5) (gConsD (gN 6) gNilD))) (fTru (fCall c_is_fault_among (aCons (fVar 6) aNil))) (fCall c_rise_of (aCons (fVar 0) (aCons (fOp ixD (fVar 5) (fC (.int 0))) (aCons (fVar 6) aNil)))))) (sRet (fOp addD (fCall c_harm_of (aCons (fVar 0) (aCons (fVar 1) aNil))) (fCl sumF (aCons (fVar 4) aNil))))))
def c_budget : List D → R0 := defD N_budget 3 false den_budget
abbrev N_copies_kept : List Str := ["link", "bit", "many"]
def den_copies_kept : DL.Env → Out := (sRet (fOp catD (fOp addD (fCall c_often (aCons (fCl lstD (aCons (fCl tupD (aCons (fC (.str (Str.ofString "send"))) aNil)) aNil)) (aCons (fVar 2) aNil))) (fCall c_right_turn (aCons (fVar 0) (aCons (fVar 1) aNil)))) (fCall c_sent_over (aCons (fOp ixD (fVar 0) (fC (.int 2))) aNil))))
def c_copies_kept : List D → R0 := defD N_copies_kept 3 true den_copies_kept
abbrev N_turn_kept : List Str := ["link", "bit", "many"]
def den_turn_kept : DL.Env → Out := (sRet (fOp catD (fCall c_sent_over (aCons (fOp subD (fOp addD (fOp ixD (fVar 0) (fC (.int 2))) (fVar 2)) (fC (.int 1))) aNil)) (fCall c_often (aCons (fCl lstD (aCons (fCl tupD (aCons (fC (.str (Str.ofString "send"))) aNil)) (aCons (fCl tupD (aCons (fC (.str (Str.ofString "bring"))) (aCons (fC (.str (Str.ofString "new"))) aNil))) (aCons (fCl tupD (aCons (fC (.str (Str.ofString "hear"))) (aCons (fVar 1) aNil))) aNil)))) (aCons (fOp ixD (fVar 0) (fC (.int 3))) aNil)))))
def c_turn_kept : List D → R0 := defD N_turn_kept 3 true den_turn_kept
abbrev N_answers_kept : List Str := ["link", "bit", "many"]
def den_answers_kept : DL.Env → Out := (sRet (fOp catD (fCall c_turn_kept (aCons (fVar 0) (aCons (fVar 1) (aCons (fVar 2) aNil)))) (fCall c_right_turn (aCons (fVar 0) (aCons (fOp subD (fC (.int 1)) (fVar 1)) aNil)))))
def c_answers_kept : List D → R0 := defD N_answers_kept 3 true den_answers_kept
abbrev N_ended_with_more : List Str := ["bit"]
def den_ended_with_more : DL.Env → Out := (sRet (fCl lstD (aCons (fCl tupD (aCons (fCl lstD (aCons (fCl tupD (aCons (fC (.str (Str.ofString "send"))) aNil)) (aCons (fCl tupD (aCons (fC (.str (Str.ofString "hear"))) (aCons (fVar 0) aNil))) (aCons (fCl tupD (aCons (fC (.str (Str.ofString "bring"))) (aCons (fCall c_copy_of (aCons (fVar 0) aNil)) aNil))) aNil)))) (aCons (fC (.int 1)) aNil))) aNil)))
def c_ended_with_more : List D → R0 := defD N_ended_with_more 1 true den_ended_with_more
abbrev N_back_filled : List Str := ["link", "bit", "many", "heard"]
def den_back_filled : DL.Env → Out := (sCons (sSet 2 (fOp subD (fOp ixD (fVar 0) (fC (.int 3))) (fC (.int 1)))) (sCons (sSet 3 (fCall c_often (aCons (fCl lstD (aCons (fCl tupD (aCons (fC (.str (Str.ofString "send"))) aNil)) (aCons (fCl tupD (aCons (fC (.str (Str.ofString "bring"))) (aCons (fC (.str (Str.ofString "new"))) aNil))) (aCons (fCl tupD (aCons (fC (.str (Str.ofString "hear"))) (aCons (fVar 1) aNil))) aNil)))) (aCons (fVar 2) aNil)))) (sRet (fOp catD (fOp addD (fOp addD (fCall c_sent_over (aCons (fOp subD (fOp addD (fOp ixD (fVar 0) (fC (.int 2))) (fVar 2)) (fC (.int 1))) aNil)) (fVar 3)) (fCall c_sent_over (aCons (fC (.int 1)) aNil))) (fCall c_ended_with_more (aCons (fVar 1) aNil))))))
def c_back_filled : List D → R0 := defD N_back_filled 2 true den_back_filled
abbrev N_both_answers_kept : List Str := ["link", "bit", "many", "other", "heard"]
def den_both_answers_kept : DL.Env → Out := (sCons (sPar2 2 3 (aCons (fOp subD (fOp ixD (fVar 0) (fC (.int 3))) (fC (.int 1))) (aCons (fOp subD (fC (.int 1)) (fVar 1)) aNil))) (sCons (sSet 4 (fCall c_often (aCons (fCl lstD (aCons (fCl tupD (aCons (fC (.str (Str.ofString "hear"))) (aCons (fVar 3) aNil))) (aCons (fCl tupD (aCons (fC (.str (Str.ofString "send"))) aNil)) (aCons (fCl tupD (aCons (fC (.str (Str.ofString "bring"))) (aCons (fC (.str (Str.ofString "new"))) aNil))) aNil)))) (aCons (fVar 2) aNil)))) (sRet (fOp catD (fOp addD (fOp addD (fCall c_turn_kept (aCons (fVar 0) (aCons (fVar 1) (aCons (fVar 2) aNil)))) (fCall c_sent_over (aCons (fOp ixD (fVar 0) (fC (.int 2))) aNil))) (fVar 4)) (fCall c_ended_with_more (aCons (fVar 3) aNil))))))
def c_both_answers_kept : List D → R0 := defD N_both_answers_kept 2 true den_both_answers_kept
abbrev N_need_kinds : List Str := ["link", "contents", "kinds", "kind"]
def den_need_kinds : DL.Env → Out := (sCons (sExpr (fCall c_need_contents (aCons (fVar 0) (aCons (fVar 1) aNil)))) (sCons (sIf (fOr (fNot (fTru (fCl isiF (aCons (fVar 2) (aCons (fC (.opq (.ty "list"))) aNil))))) (fNot (fTru (fCl allF (aCons (fLc [3] (fSeq (fVar 2)) (gN 3) tYesD (fOp inA (fVar 3) (fC g_KINDS))) aNil))))) sBad sNil) (sExpr (fCall c_need_sound (aCons (fVar 0) aNil)))))
def c_need_kinds : List D → R0 := defD N_need_kinds 3 false den_need_kinds
abbrev N_most_of_all : List Str := ["link", "contents", "kinds", "kind"]
def den_most_of_all : DL.Env → Out := (sRet (fOp addD (fCall c_harm_of (aCons (fVar 0) (aCons (fVar 1) aNil))) (fCl sumF (aCons (fLc [3] (fSeq (fVar 2)) (gN 3) tYesD (fCall c_worth_of (aCons (fVar 0) (aCons (fVar 3) aNil)))) aNil))))
def c_most_of_all : List D → R0 := defD N_most_of_all 3 false den_most_of_all
abbrev N_readied : List Str := ["link", "bit", "kind", "copies", "kept"]
def den_readied : DL.Env → Out := (sCons (sPar2 3 4 (aCons (fOp subD (fOp ixD (fVar 0) (fC (.int 2))) (fC (.int 1))) (aCons (fOp subD (fOp ixD (fVar 0) (fC (.int 3))) (fC (.int 1))) aNil))) (sCons (sIf (fBl (fOp eqD (fVar 2) (fC (.str (Str.ofString "receiver"))))) (sRet (fCl tupD (aCons (fCl lstD aNil) (aCons (fCl tupD (aCons (fC (.str (Str.ofString "receiver"))) aNil)) aNil)))) sNil) (sCons (sIf (fBl (fOp eqD (fVar 2) (fC (.str (Str.ofString "sender"))))) (sRet (fCl tupD (aCons (fOp addD (fCall c_back_filled (aCons (fVar 0) (aCons (fVar 1) aNil))) (fCall c_often (aCons (fCl lstD (aCons (fCl tupD (aCons (fC (.str (Str.ofString "send"))) aNil)) aNil)) (aCons (fOp ixD (fVar 0) (fC (.int 2))) aNil)))) (aCons (fCl tupD (aCons (fC (.str (Str.ofString "sender"))) aNil)) aNil)))) sNil) (sCons (sIf (fBl (fOp eqD (fVar 2) (fC (.str (Str.ofString "copy"))))) (sRet (fCl tupD (aCons (fCall c_copies_kept (aCons (fVar 0) (aCons (fVar 1) (aCons (fVar 3) aNil)))) (aCons (fCl tupD (aCons (fC (.str (Str.ofString "copy"))) (aCons (fVar 1) aNil))) aNil)))) sNil) (sCons (sIf (fBl (fOp eqD (fVar 2) (fC (.str (Str.ofString "turn"))))) (sRet (fCl tupD (aCons (fOp addD (fCall c_copies_kept (aCons (fVar 0) (aCons (fVar 1) (aCons (fVar 3) aNil)))) (fCall c_often (aCons (fCl lstD (aCons (fCl tupD (aCons (fC (.str (Str.ofString "send"))) aNil)) aNil)) (aCons (fC (.int 1)) aNil)))) (aCons (fCl tupD (aCons (fC (.str (Str.ofString "turn"))) (aCons (fC (.str (Str.ofString "new"))) aNil))) aNil)))) sNil) (sCons (sIf (fBl (fOp eqD (fVar 2) (fC (.str (Str.ofString "lot"))))) (sRet (fCl tupD (aCons (fCall c_copies_kept (aCons (fVar 0) (aCons (fVar 1) (aCons (fVar 3) aNil)))) (aCons (fCl tupD (aCons (fC (.str (Str.ofString "lot"))) (aCons (fVar 3) aNil))) aNil)))) sNil) (sCons (sIf (fBl (fOp eqD (fVar 2) (fC (.str (Str.ofString "swap"))))) (sRet (fCl tupD (aCons (fCall c_both_answers_kept (aCons (fVar 0) (aCons (fVar 1) aNil))) (aCons (fCl tupD (aCons (fC (.str (Str.ofString "swap"))) (aCons (fOp subD (fC (.int 1)) (fVar 1)) aNil))) aNil)))) sNil) (sRet (fCl tupD (aCons (fCall c_answers_kept (aCons (fVar 0) (aCons (fVar 1) (aCons (fVar 4) aNil)))) (aCons (fIf (fBl (fOp eqD (fVar 2) (fC (.str (Str.ofString "answer"))))) (fCl tupD (aCons (fC (.str (Str.ofString "answer"))) (aCons (fVar 1) aNil))) (fCl tupD (aCons (fC (.str (Str.ofString "heard"))) (aCons (fVar 4) aNil)))) aNil)))))))))))
def c_readied : List D → R0 := defD N_readied 3 false den_readied
abbrev N_harm_done : List Str := ["link", "contents", "kind", "far", "fault", "ahead", "later"]
def den_harm_done : DL.Env → Out := (sCons (sAsg (fCall c_readied (aCons (fVar 0) (aCons (fOp subD (fC (.int 1)) (fOp ixD (fOp ixD (fVar 1) (fC (.int 0))) (fC (.int 0)))) (aCons (fVar 2) aNil)))) (gTupD 2 (gConsD (gN 3) (gConsD (gN 4) gNilD)))) (sCons (sSet 5 (fOp addD (fCall c_to_empty (aCons (fVar 0) (aCons (fVar 1) aNil))) (fVar 3))) (sCons (sSet 6 (fCall c_behind_fault (aCons (fOp ixD (fCall c_far_gone (aCons (fVar 0) (aCons (fVar 1) (aCons (fVar 5) aNil)))) (fC (.int 0))) (aCons (fVar 4) aNil)))) (sRet (fOp catD (fOp addD (fVar 5) (fCl lstD (aCons (fVar 4) aNil))) (fCall c_worst_of (aCons (fVar 0) (aCons (fVar 6) aNil))))))))
def c_harm_done : List D → R0 := defD N_harm_done 3 true den_harm_done
abbrev N_is_within : List Str := ["some", "kinds", "place", "kind"]
def p_is_within_0 : DL.Env → Out := (sIf (fAnd (fBl (fOp ltD (fVar 2) (fCl lenF (aCons (fVar 0) aNil)))) (fBl (fOp eqD (fOp ixD (fVar 0) (fVar 2)) (fVar 3)))) (sAug 2 (· + ·) (fC (.int 1))) sNil)
def b_is_within_1 : DL.Env → Out := p_is_within_0
def p_is_within_2 : DL.Env → Out := (sFor (fSeq (fVar 1)) (gN 3) b_is_within_1)
def den_is_within : DL.Env → Out := (sCons (sSet 2 (fC (.int 0))) (sCons p_is_within_2 (sRet (fOp eqD (fVar 2) (fCl lenF (aCons (fVar 0) aNil))))))
def c_is_within : List D → R0 := defD N_is_within 2 false den_is_within
abbrev N_most_wrong : List Str := ["link", "contents", "kinds"]
def den_most_wrong : DL.Env → Out := (sCons (sExpr (fCall c_need_kinds (aCons (fVar 0) (aCons (fVar 1) (aCons (fVar 2) aNil))))) (sRet (fCall c_most_of_all (aCons (fVar 0) (aCons (fVar 1) (aCons (fVar 2) aNil))))))
def c_most_wrong : List D → R0 := defD N_most_wrong 3 false den_most_wrong
abbrev N_is_worst_faulty : List Str := ["link", "contents", "kinds", "value", "legs", "item"]
def den_is_worst_faulty : DL.Env → Out := (sCons (sExpr (fCall c_need_kinds (aCons (fVar 0) (aCons (fVar 1) (aCons (fVar 2) aNil))))) (sCons (sSet 4 (fCall c_legs_of (aCons (fVar 0) (aCons (fVar 1) (aCons (fVar 3) aNil))))) (sCons (sIf (fOr (fBl (fOp isN (fVar 4) (fC .non))) (fBl (fOp neD (fCl lenF (aCons (fCall c_wrongs_in (aCons (fVar 4) aNil)) aNil)) (fCall c_most_of_all (aCons (fVar 0) (aCons (fVar 1) (aCons (fVar 2) aNil))))))) (sRet (fC (.bl false))) sNil) (sRet (fCall c_is_within (aCons (fLc [5] (fSeq (fVar 3)) (gN 5) (fTru (fCall c_is_fault_among (aCons (fVar 5) aNil))) (fOp ixD (fVar 5) (fC (.int 0)))) (aCons (fVar 2) aNil)))))))
def c_is_worst_faulty : List D → R0 := defD N_is_worst_faulty 4 false den_is_worst_faulty
abbrev N_copies_of : List Str := ["contents", "new", "zeros", "ones"]
def den_copies_of : DL.Env → Out := (sCons (sAsg (fOp ixD (fVar 0) (fC (.int 2))) (gTupD 3 (gConsD (gN 1) (gConsD (gN 2) (gConsD (gN 3) gNilD))))) (sRet (fIf (fBl (fOp eqD (fOp ixD (fOp ixD (fVar 0) (fC (.int 0))) (fC (.int 0))) (fC (.int 1)))) (fCl tupD (aCons (fVar 1) (aCons (fVar 3) (aCons (fVar 2) aNil)))) (fCl tupD (aCons (fVar 1) (aCons (fVar 2) (aCons (fVar 3) aNil)))))))
def c_copies_of : List D → R0 := defD N_copies_of 1 false den_copies_of
abbrev N_wanted_answers : List Str := ["link", "contents", "bit", "heard", "need"]
def den_wanted_answers : DL.Env → Out := (sCons (sAsg (fOp ixD (fVar 1) (fC (.int 0))) (gTupD 2 (gConsD (gN 2) (gConsD (gN 3) gNilD)))) (sCons (sSet 4 (fOp subD (fOp ixD (fVar 0) (fC (.int 3))) (fVar 3))) (sRet (fCl tupD (aCons (fVar 4) (aCons (fOp subD (fVar 4) (fOp ixD (fOp ixD (fVar 1) (fC (.int 3))) (fVar 2))) aNil))))))
def c_wanted_answers : List D → R0 := defD N_wanted_answers 2 false den_wanted_answers
abbrev N_blocked_answers : List Str := ["link", "contents"]
def den_blocked_answers : DL.Env → Out := (sRet (fIf (fBl (fOp eqD (fOp ixD (fOp ixD (fVar 1) (fC (.int 3))) (fOp subD (fC (.int 1)) (fOp ixD (fOp ixD (fVar 1) (fC (.int 0))) (fC (.int 0))))) (fOp ixD (fVar 0) (fC (.int 1))))) (fC (.int 1)) (fC (.int 0))))
def c_blocked_answers : List D → R0 := defD N_blocked_answers 2 false den_blocked_answers
abbrev N_by_new : List Str := ["link", "contents", "lack", "new", "own", "other", "wanted", "taken", "dropped"]
def den_by_new : DL.Env → Out := (sCons (sAsg (fCall c_copies_of (aCons (fVar 1) aNil)) (gTupD 3 (gConsD (gN 3) (gConsD (gN 4) (gConsD (gN 5) gNilD))))) (sCons (sSet 6 (fOp subD (fOp ixD (fVar 0) (fC (.int 2))) (fCall c_in_lot (aCons (fVar 1) (aCons (fC (.str (Str.ofString "new"))) aNil))))) (sCons (sSet 7 (fCl minF (aCons (fVar 3) (aCons (fVar 6) aNil)))) (sCons (sSet 8 (fC (.int 0))) (sCons (sIf (fBl (fOp eqD (fOp addD (fVar 4) (fVar 5)) (fOp ixD (fVar 0) (fC (.int 0))))) (sCons (sSet 8 (fC (.int 1))) (sAug 4 (· - ·) (fIf (fBl (fOp eqD (fVar 5) (fC (.int 0)))) (fC (.int 1)) (fC (.int 0))))) sNil) (sRet (fOp addD (fOp addD (fOp subD (fOp mulD (fC (.int 2)) (fVar 6)) (fVar 7)) (fVar 8)) (fCl maxF (aCons (fC (.int 0)) (aCons (fOp subD (fOp subD (fVar 2) (fOp subD (fVar 3) (fVar 7))) (fVar 4)) aNil))))))))))
def c_by_new : List D → R0 := defD N_by_new 3 false den_by_new
abbrev N_least_to_end : List Str := ["link", "contents", "need", "lack", "ahead", "new", "own", "other"]
def den_least_to_end : DL.Env → Out := (sCons (sAsg (fCall c_wanted_answers (aCons (fVar 0) (aCons (fVar 1) aNil))) (gTupD 2 (gConsD (gN 2) (gConsD (gN 3) gNilD)))) (sCons (sIf (fBl (fOp leD (fVar 3) (fC (.int 0)))) (sRet (fVar 2)) sNil) (sCons (sSet 4 (fOp addD (fOp addD (fVar 2) (fVar 3)) (fCall c_blocked_answers (aCons (fVar 0) (aCons (fVar 1) aNil))))) (sCons (sAsg (fCall c_copies_of (aCons (fVar 1) aNil)) (gTupD 3 (gConsD (gN 5) (gConsD (gN 6) (gConsD (gN 7) gNilD))))) (sCons (sIf (fBl (fOp eqD (fOp ixD (fOp ixD (fVar 1) (fC (.int 0))) (fC (.int 0))) (fOp ixD (fOp ixD (fVar 1) (fC (.int 1))) (fC (.int 0))))) (sRet (fOp addD (fOp addD (fVar 4) (fCl maxF (aCons (fC (.int 0)) (aCons (fOp subD (fOp subD (fVar 3) (fVar 5)) (fVar 6)) aNil)))) (fIf (fBl (fOp eqD (fVar 7) (fOp ixD (fVar 0) (fC (.int 0))))) (fC (.int 1)) (fC (.int 0))))) sNil) (sRet (fOp addD (fOp subD (fVar 4) (fC (.int 1))) (fCl minF (aCons (fCall c_by_new (aCons (fVar 0) (aCons (fVar 1) (aCons (fOp subD (fVar 3) (fC (.int 1))) aNil)))) (aCons (fCall c_by_old (aCons (fVar 0) (aCons (fVar 1) (aCons (fOp subD (fVar 3) (fC (.int 1))) aNil)))) aNil))))))))))
def c_least_to_end : List D → R0 := defD N_least_to_end 2 false den_least_to_end
abbrev N_least_turn : List Str := ["link", "contents"]
def den_least_turn : DL.Env → Out := (sCons (sExpr (fCall c_need_contents (aCons (fVar 0) (aCons (fVar 1) aNil)))) (sRet (fCall c_least_to_end (aCons (fVar 0) (aCons (fVar 1) aNil)))))
def c_least_turn : List D → R0 := defD N_least_turn 2 false den_least_turn
abbrev N_is_full : List Str := ["link", "contents"]
def den_is_full : DL.Env → Out := (sRet (fOp eqD (fCl sumF (aCons (fOp ixD (fVar 1) (fC (.int 2))) aNil)) (fOp ixD (fVar 0) (fC (.int 0)))))
def c_is_full : List D → R0 := defD N_is_full 2 false den_is_full
abbrev N_by_made : List Str := ["link", "contents", "new", "own", "other", "kept", "lack", "least", "dropped"]
def den_by_made : DL.Env → Out := (sCons (sAsg (fCall c_copies_of (aCons (fVar 1) aNil)) (gTupD 3 (gConsD (gN 2) (gConsD (gN 3) (gConsD (gN 4) gNilD))))) (sCons (sSet 5 (fCall c_in_lot (aCons (fVar 1) (aCons (fC (.str (Str.ofString "new"))) aNil)))) (sCons (sSet 6 (fCl maxF (aCons (fC (.int 0)) (aCons (fOp subD (fOp subD (fOp subD (fOp ixD (fVar 0) (fC (.int 2))) (fVar 5)) (fVar 2)) (fVar 3)) aNil)))) (sCons (sSet 7 (fOp addD (fOp subD (fOp ixD (fVar 0) (fC (.int 2))) (fVar 5)) (fVar 6))) (sCons (sIf (fAnd (fBl (fOp gtD (fVar 6) (fC (.int 0)))) (fBl (fOp eqD (fOp addD (fVar 3) (fVar 4)) (fOp ixD (fVar 0) (fC (.int 0)))))) (sAug 7 (· + ·) (fIf (fBl (fOp gtD (fVar 4) (fC (.int 0)))) (fC (.int 1)) (fC (.int 2)))) sNil) (sCons (sSet 5 (fCall c_in_lot (aCons (fVar 1) (aCons (fC (.str (Str.ofString "old"))) aNil)))) (sCons (sSet 6 (fCl maxF (aCons (fC (.int 0)) (aCons (fOp subD (fOp subD (fOp subD (fOp ixD (fVar 0) (fC (.int 2))) (fVar 5)) (fVar 2)) (fVar 3)) aNil)))) (sCons (sIf (fBl (fOp leD (fOp addD (fVar 2) (fVar 6)) (fOp ixD (fVar 0) (fC (.int 0))))) (sCons (sSet 8 (fCl maxF (aCons (fC (.int 0)) (aCons (fOp subD (fOp addD (fOp addD (fVar 2) (fVar 6)) (fVar 4)) (fOp ixD (fVar 0) (fC (.int 0)))) aNil)))) (sSet 7 (fCl minF (aCons (fVar 7) (aCons (fOp addD (fOp addD (fOp subD (fOp ixD (fVar 0) (fC (.int 2))) (fVar 5)) (fVar 6)) (fVar 8)) aNil))))) sNil) (sRet (fVar 7))))))))))
def c_by_made : List D → R0 := defD N_by_made 2 false den_by_made
abbrev N_by_next_turn : List Str := ["link", "contents", "new", "own", "other", "lack"]
def den_by_next_turn : DL.Env → Out := (sCons (sAsg (fCall c_copies_of (aCons (fVar 1) aNil)) (gTupD 3 (gConsD (gN 2) (gConsD (gN 3) (gConsD (gN 4) gNilD))))) (sCons (sSet 5 (fOp subD (fOp ixD (fVar 0) (fC (.int 3))) (fOp ixD (fOp ixD (fVar 1) (fC (.int 3))) (fOp subD (fC (.int 1)) (fOp ixD (fOp ixD (fVar 1) (fC (.int 0))) (fC (.int 0))))))) (sCons (sIf (fBl (fOp leD (fVar 5) (fC (.int 0)))) (sRet (fOp addD (fOp ixD (fVar 0) (fC (.int 3))) (fIf (fTru (fCall c_is_full (aCons (fVar 0) (aCons (fVar 1) aNil)))) (fC (.int 1)) (fC (.int 0))))) sNil) (sRet (fOp addD (fOp addD (fOp addD (fOp ixD (fVar 0) (fC (.int 3))) (fVar 5)) (fCl maxF (aCons (fC (.int 0)) (aCons (fOp subD (fVar 5) (fVar 4)) aNil)))) (fIf (fBl (fOp eqD (fOp addD (fVar 2) (fVar 3)) (fOp ixD (fVar 0) (fC (.int 0))))) (fC (.int 1)) (fC (.int 0))))))))
def c_by_next_turn : List D → R0 := defD N_by_next_turn 2 false den_by_next_turn
abbrev N_least_to_right : List Str := ["link", "contents", "whole", "unlike", "done", "new", "_", "other", "wanted", "need", "lack", "least"]
def den_least_to_right : DL.Env → Out := (sCons (sPar3 2 3 4 (aCons (fOp mulD (fC (.int 2)) (fOp ixD (fVar 0) (fC (.int 2)))) (aCons (fOp neD (fOp ixD (fOp ixD (fVar 1) (fC (.int 0))) (fC (.int 0))) (fOp ixD (fOp ixD (fVar 1) (fC (.int 1))) (fC (.int 0)))) (aCons (fOp ixD (fOp ixD (fVar 1) (fC (.int 1))) (fC (.int 2))) aNil)))) (sCons (sAsg (fCall c_copies_of (aCons (fVar 1) aNil)) (gTupD 3 (gConsD (gN 5) (gConsD (gN 6) (gConsD (gN 7) gNilD))))) (sCons (sIf (fAnd (fTru (fVar 3)) (fNot (fTru (fVar 4)))) (sCons (sSet 8 (fOp subD (fOp ixD (fVar 0) (fC (.int 2))) (fCall c_in_lot (aCons (fVar 1) (aCons (fC (.str (Str.ofString "new"))) aNil))))) (sRet (fOp addD (fOp addD (fVar 8) (fCl maxF (aCons (fC (.int 0)) (aCons (fOp subD (fVar 8) (fVar 5)) aNil)))) (fIf (fAnd (fBl (fOp eqD (fVar 5) (fC (.int 0)))) (fTru (fCall c_is_full (aCons (fVar 0) (aCons (fVar 1) aNil))))) (fC (.int 1)) (fC (.int 0)))))) sNil) (sCons (sAsg (fCall c_wanted_answers (aCons (fVar 0) (aCons (fVar 1) aNil))) (gTupD 2 (gConsD (gN 9) (gConsD (gN 10) gNilD)))) (sCons (sIf (fAnd (fTru (fVar 3)) (fBl (fOp leD (fVar 10) (fC (.int 0))))) (sRet (fOp addD (fOp addD (fVar 9) (fVar 2)) (fCl minF (aCons (fCall c_by_made (aCons (fVar 0) (aCons (fVar 1) aNil))) (aCons (fCall c_by_next_turn (aCons (fVar 0) (aCons (fVar 1) aNil))) aNil))))) sNil) (sCons (sSet 11 (fOp addD (fOp addD (fCall c_least_to_end (aCons (fVar 0) (aCons (fVar 1) aNil))) (fVar 2)) (fIf (fAnd (fBl (fOp leD (fVar 10) (fC (.int 0)))) (fTru (fCall c_is_full (aCons (fVar 0) (aCons (fVar 1) aNil))))) (fC (.int 1)) (fC (.int 0))))) (sCons (sSet 8 (fOp subD (fOp ixD (fVar 0) (fC (.int 2))) (fCall c_in_lot (aCons (fVar 1) (aCons (fC (.str (Str.ofString "old"))) aNil))))) (sCons (sIf (fOr (fTru (fVar 4)) (fBl (fOp ltD (fVar 7) (fVar 8)))) (sRet (fVar 11)) sNil) (sRet (fCl minF (aCons (fVar 11) (aCons (fOp subD (fOp addD (fVar 8) (fVar 2)) (fCl minF (aCons (fVar 5) (aCons (fOp ixD (fVar 0) (fC (.int 2))) aNil)))) aNil))))))))))))
def c_least_to_right : List D → R0 := defD N_least_to_right 2 false den_least_to_right
abbrev N_least_right : List Str := ["link", "contents"]
def den_least_right : DL.Env → Out := (sCons (sExpr (fCall c_need_contents (aCons (fVar 0) (aCons (fVar 1) aNil)))) (sRet (fCall c_least_to_right (aCons (fVar 0) (aCons (fVar 1) aNil)))))
def c_least_right : List D → R0 := defD N_least_right 2 false den_least_right
abbrev N_ends : List Str := ["ahead", "event", "later"]
def den_ends : DL.Env → Out := (sRet (fCall c_has_ended (aCons (fVar 0) (aCons (fVar 2) aNil))))
def c_ends : List D → R0 := defD N_ends 3 false den_ends
abbrev N_hands_rightly : List Str := ["ahead", "event", "later"]
def den_hands_rightly : DL.Env → Out := (sRet (fAndV (fCall c_has_handed (aCons (fVar 0) (aCons (fVar 2) aNil))) (fAndV (fOp eqD (fOp ixD (fVar 1) (fC (.int 1))) (fC (.str (Str.ofString "new")))) (fNotV (fOp ixD (fOp ixD (fVar 0) (fC (.int 1))) (fC (.int 2)))))))
def c_hands_rightly : List D → R0 := defD N_hands_rightly 3 false den_hands_rightly
abbrev N_cost_of_turn : List Str := ["link"]
def den_cost_of_turn : DL.Env → Out := (sRet (fOp subD (fOp addD (fOp mulD (fC (.int 2)) (fOp ixD (fVar 0) (fC (.int 2)))) (fOp mulD (fC (.int 3)) (fOp ixD (fVar 0) (fC (.int 3))))) (fC (.int 2))))
def c_cost_of_turn : List D → R0 := defD N_cost_of_turn 1 false den_cost_of_turn
abbrev N_cost_of_letters : List Str := ["link", "letters"]
def den_cost_of_letters : DL.Env → Out := (sRet (fIf (fBl (fOp gtD (fVar 1) (fC (.int 0)))) (fOp addD (fOp mulD (fC (.int 2)) (fOp ixD (fVar 0) (fC (.int 2)))) (fOp mulD (fOp subD (fVar 1) (fC (.int 1))) (fCall c_cost_of_turn (aCons (fVar 0) aNil)))) (fC (.int 0))))
def c_cost_of_letters : List D → R0 := defD N_cost_of_letters 2 false den_cost_of_letters
abbrev N_need_counted : List Str := ["link", "number"]
def den_need_counted : DL.Env → Out := (sCons (sExpr (fCall c_need_link (aCons (fVar 0) aNil))) (sCons (sExpr (fCall c_need_number (aCons (fVar 1) aNil))) (sExpr (fCall c_need_sound (aCons (fVar 0) aNil)))))
def c_need_counted : List D → R0 := defD N_need_counted 2 false den_need_counted
abbrev N_turn_cost : List Str := ["link"]
def den_turn_cost : DL.Env → Out := (sCons (sExpr (fCall c_need_link (aCons (fVar 0) aNil))) (sRet (fCall c_cost_of_turn (aCons (fVar 0) aNil))))
def c_turn_cost : List D → R0 := defD N_turn_cost 1 false den_turn_cost
abbrev N_most_right : List Str := ["link", "many"]
def den_most_right : DL.Env → Out := (sCons (sExpr (fCall c_need_counted (aCons (fVar 0) (aCons (fVar 1) aNil)))) (sRet (fIf (fBl (fOp ltD (fVar 1) (fOp mulD (fC (.int 2)) (fOp ixD (fVar 0) (fC (.int 2)))))) (fC (.int 0)) (fOp addD (fC (.int 1)) (fOp fdivD (fOp subD (fVar 1) (fOp mulD (fC (.int 2)) (fOp ixD (fVar 0) (fC (.int 2))))) (fCall c_cost_of_turn (aCons (fVar 0) aNil)))))))
def c_most_right : List D → R0 := defD N_most_right 2 false den_most_right
abbrev N_events_for : List Str := ["link", "letters"]
def den_events_for : DL.Env → Out := (sCons (sExpr (fCall c_need_counted (aCons (fVar 0) (aCons (fVar 1) aNil)))) (sRet (fCall c_cost_of_letters (aCons (fVar 0) (aCons (fVar 1) aNil)))))
def c_events_for : List D → R0 := defD N_events_for 2 false den_events_for
abbrev N_is_step_of : List Str := ["web", "value"]
def den_is_step_of : DL.Env → Out := (sRet (fAndV (fCall c_is_tuple_of (aCons (fVar 1) (aCons (fC (.int 2)) aNil))) (fAndV (fCall c_is_among (aCons (fOp ixD (fVar 1) (fC (.int 0))) (aCons (fCl lenF (aCons (fOp ixD (fVar 0) (fC (.int 1))) aNil)) aNil))) (fCall c_is_event (aCons (fOp ixD (fVar 1) (fC (.int 1))) aNil)))))
def c_is_step_of : List D → R0 := defD N_is_step_of 2 false den_is_step_of
abbrev N_web_steps : List Str := ["web", "contents", "value", "now", "steps", "number", "event", "link", "later", "step"]
def p_web_steps_0 : DL.Env → Out := (sIf (fOr (fNot (fTru (fCl isiF (aCons (fVar 2) (aCons (fC (.opq (.ty "list"))) aNil))))) (fNot (fTru (fCl allF (aCons (fLc [9] (fSeq (fVar 2)) (gN 9) tYesD (fCall c_is_step_of (aCons (fVar 0) (aCons (fVar 9) aNil)))) aNil))))) (sRet (fC .non)) sNil)
def p_web_steps_1 : DL.Env → Out := (sPar2 3 4 (aCons (fCl lstF (aCons (fVar 1) aNil)) (aCons (fCl lstD aNil) aNil)))
def p_web_steps_2 : DL.Env → Out := (sSet 7 (fOp ixD (fOp ixD (fOp ixD (fVar 0) (fC (.int 1))) (fVar 5)) (fC (.int 2))))
def p_web_steps_3 : DL.Env → Out := (sIf (fNot (fTru (fCall c_can_happen (aCons (fVar 7) (aCons (fLend (fOp ixD (fVar 3) (fVar 5))) (aCons (fVar 6) aNil)))))) (sRet (fC .non)) sNil)
def p_web_steps_4 : DL.Env → Out := (sSet 8 (fCall c_moved (aCons (fVar 7) (aCons (fLend (fOp ixD (fVar 3) (fVar 5))) (aCons (fVar 6) aNil)))))
def p_web_steps_5 : DL.Env → Out := (sApp 4 (fCl tupD (aCons (fVar 5) (aCons (fLend (fOp ixD (fVar 3) (fVar 5))) (aCons (fVar 6) (aCons (fVar 8) aNil))))))
def b_web_steps_6 : DL.Env → Out := (sCons p_web_steps_2 (sCons p_web_steps_3 (sCons p_web_steps_4 (sCons p_web_steps_5 (sSub 3 (fVar 8) (fVar 5))))))
def p_web_steps_7 : DL.Env → Out := (sFor (fSeq (fVar 2)) (gTupD 2 (gConsD (gN 5) (gConsD (gN 6) gNilD))) b_web_steps_6)
def den_web_steps : DL.Env → Out := (sCons p_web_steps_0 (sCons p_web_steps_1 (sCons p_web_steps_7 (sRet (fVar 4)))))
def c_web_steps : List D → R0 := defD N_web_steps 3 false den_web_steps
abbrev N_need_steps : List Str := ["web", "contents", "run", "steps"]
def den_need_steps : DL.Env → Out := (sCons (sSet 3 (fCall c_web_steps (aCons (fVar 0) (aCons (fVar 1) (aCons (fVar 2) aNil))))) (sCons (sIf (fBl (fOp isN (fVar 3) (fC .non))) sBad sNil) (sRet (fVar 3))))
def c_need_steps : List D → R0 := defD N_need_steps 3 false den_need_steps
abbrev N_need_web_run : List Str := ["web", "contents", "run"]
def den_need_web_run : DL.Env → Out := (sCons (sExpr (fCall c_need_web_contents (aCons (fVar 0) (aCons (fVar 1) aNil)))) (sRet (fCall c_need_steps (aCons (fVar 0) (aCons (fVar 1) (aCons (fVar 2) aNil))))))
def c_need_web_run : List D → R0 := defD N_need_web_run 3 false den_need_web_run
abbrev N_are_web_contents : List Str := ["web", "value"]
def den_are_web_contents : DL.Env → Out := (sCons (sExpr (fCall c_need_web (aCons (fVar 0) aNil))) (sRet (fCall c_fits_web (aCons (fVar 0) (aCons (fVar 1) aNil)))))
def c_are_web_contents : List D → R0 := defD N_are_web_contents 2 false den_are_web_contents
abbrev N_can_go_web : List Str := ["web", "contents", "value"]
def den_can_go_web : DL.Env → Out := (sCons (sExpr (fCall c_need_web_contents (aCons (fVar 0) (aCons (fVar 1) aNil)))) (sRet (fOp notN (fCall c_web_steps (aCons (fVar 0) (aCons (fVar 1) (aCons (fVar 2) aNil)))) (fC .non))))
def c_can_go_web : List D → R0 := defD N_can_go_web 3 false den_can_go_web
abbrev N_web_after : List Str := ["web", "contents", "run", "steps", "found", "number", "_", "later"]
def p_web_after_0 : DL.Env → Out := (sSet 3 (fCall c_need_web_run (aCons (fVar 0) (aCons (fVar 1) (aCons (fVar 2) aNil)))))
def b_web_after_1 : DL.Env → Out := (sSub 4 (fVar 7) (fVar 5))
def p_web_after_2 : DL.Env → Out := (sFor (fSeq (fVar 3)) (gTupD 4 (gConsD (gN 5) (gConsD (gN 6) (gConsD (gN 6) (gConsD (gN 7) gNilD))))) b_web_after_1)
def den_web_after : DL.Env → Out := (sCons p_web_after_0 (sCons (sSetO 4 (fCl lstF (aCons (fVar 1) aNil))) (sCons p_web_after_2 (sRetV 4))))
def c_web_after : List D → R0 := defD N_web_after 3 true den_web_after
abbrev N_web_wrong_steps : List Str := ["web", "contents", "run", "told", "number", "ahead", "event", "later", "step"]
def den_web_wrong_steps : DL.Env → Out := (sCons (sSet 3 (fLc [4, 5, 6, 7] (fSeq (fCall c_need_web_run (aCons (fVar 0) (aCons (fVar 1) (aCons (fVar 2) aNil))))) (gTupD 4 (gConsD (gN 4) (gConsD (gN 5) (gConsD (gN 6) (gConsD (gN 7) gNilD))))) tYesD (fCl tupD (aCons (fVar 4) (aCons (fCall c_wrong_between (aCons (fVar 5) (aCons (fVar 6) (aCons (fVar 7) aNil)))) aNil))))) (sRet (fLc [8] (fSeq (fVar 3)) (gN 8) (fBl (fOp notN (fOp ixD (fVar 8) (fC (.int 1))) (fC .non))) (fVar 8))))
def c_web_wrong_steps : List D → R0 := defD N_web_wrong_steps 3 true den_web_wrong_steps
abbrev N_need_among : List Str := ["value", "many"]
def den_need_among : DL.Env → Out := (sIf (fNot (fTru (fCall c_is_among (aCons (fVar 0) (aCons (fVar 1) aNil))))) sBad sNil)
def c_need_among : List D → R0 := defD N_need_among 2 false den_need_among
abbrev N_part_of : List Str := ["web", "contents", "run", "number", "way", "event"]
def den_part_of : DL.Env → Out := (sCons (sExpr (fCall c_need_web_run (aCons (fVar 0) (aCons (fVar 1) (aCons (fVar 2) aNil))))) (sCons (sExpr (fCall c_need_among (aCons (fVar 3) (aCons (fCl lenF (aCons (fOp ixD (fVar 0) (fC (.int 1))) aNil)) aNil)))) (sRet (fLc [4, 5] (fSeq (fVar 2)) (gTupD 2 (gConsD (gN 4) (gConsD (gN 5) gNilD))) (fBl (fOp eqD (fVar 4) (fVar 3))) (fVar 5)))))
def c_part_of : List D → R0 := defD N_part_of 4 true den_part_of
abbrev N_by_ways : List Str := ["web", "contents", "run", "number", "step"]
def den_by_ways : DL.Env → Out := (sCons (sExpr (fCall c_need_web_run (aCons (fVar 0) (aCons (fVar 1) (aCons (fVar 2) aNil))))) (sRet (fLc2 [3, 4] [4] (fL rng1D (aCons (fCl lenF (aCons (fOp ixD (fVar 0) (fC (.int 1))) aNil)) aNil)) (gN 3) tYesD (fSeq (fVar 2)) (gN 4) (fBl (fOp eqD (fOp ixD (fVar 4) (fC (.int 0))) (fVar 3))) (fVar 4))))
def c_by_ways : List D → R0 := defD N_by_ways 3 true den_by_ways
abbrev N_harm_at : List Str := ["web", "contents", "host", "way", "many"]
def den_harm_at : DL.Env → Out := (sCons (sExpr (fCall c_need_web_contents (aCons (fVar 0) (aCons (fVar 1) aNil)))) (sCons (sExpr (fCall c_need_among (aCons (fVar 2) (aCons (fOp ixD (fVar 0) (fC (.int 0))) aNil)))) (sCons (sExpr (fCall c_need_all_sound (aCons (fVar 0) aNil))) (sRet (fCl sumF (aCons (fLc [3, 4] (fL zipD (aCons (fOp ixD (fVar 0) (fC (.int 1))) (aCons (fCall c_harms_of (aCons (fVar 0) (aCons (fVar 1) aNil))) aNil))) (gTupD 2 (gConsD (gN 3) (gConsD (gN 4) gNilD))) (fBl (fOp eqD (fOp ixD (fVar 3) (fC (.int 1))) (fVar 2))) (fVar 4)) aNil))))))
def c_harm_at : List D → R0 := defD N_harm_at 3 false den_harm_at
abbrev N_best_by_room : List Str := ["least", "costs", "room", "kept", "cost"]
def den_best_by_room : DL.Env → Out := (sRet (fLc [2] (fL rng1D (aCons (fCl lenF (aCons (fVar 0) aNil)) aNil)) (gN 2) tYesD (fCl minLF (aCons (fLc [3, 4] (fL enumD (aCons (fVar 1) aNil)) (gTupD 2 (gConsD (gN 3) (gConsD (gN 4) gNilD))) (fBl (fOp leD (fVar 3) (fVar 2))) (fCl tupD (aCons (fOp addD (fOp ixD (fVar 0) (fOp subD (fVar 2) (fVar 3))) (fVar 4)) (aCons (fVar 3) aNil)))) aNil))))
def c_best_by_room : List D → R0 := defD N_best_by_room 2 true den_best_by_room
abbrev N_need_web_most : List Str := ["web", "contents", "most"]
def den_need_web_most : DL.Env → Out := (sCons (sExpr (fCall c_need_web_contents (aCons (fVar 0) (aCons (fVar 1) aNil)))) (sCons (sExpr (fCall c_need_most (aCons (fVar 2) aNil))) (sExpr (fCall c_need_all_sound (aCons (fVar 0) aNil)))))
def c_need_web_most : List D → R0 := defD N_need_web_most 3 false den_need_web_most
abbrev N_is_row_of : List Str := ["web", "value", "ways", "hosts", "led", "one", "way", "later", "place", "host"]
def den_is_row_of : DL.Env → Out := (sCons (sIf (fOr (fNot (fTru (fCl isiF (aCons (fVar 1) (aCons (fC (.opq (.ty "list"))) aNil))))) (fOr (fBl (fOp eqD (fCl lenF (aCons (fVar 1) aNil)) (fC (.int 0)))) (fNot (fTru (fCl allF (aCons (fLc [5] (fSeq (fVar 1)) (gN 5) tYesD (fCall c_is_among (aCons (fVar 5) (aCons (fCl lenF (aCons (fOp ixD (fVar 0) (fC (.int 1))) aNil)) aNil)))) aNil)))))) (sRet (fC (.bl false))) sNil) (sCons (sSet 2 (fLc [5] (fSeq (fVar 1)) (gN 5) tYesD (fOp ixD (fOp ixD (fVar 0) (fC (.int 1))) (fVar 5)))) (sCons (sSet 3 (fOp addD (fCl lstD (aCons (fOp ixD (fOp ixD (fVar 2) (fC (.int 0))) (fC (.int 0))) aNil)) (fLc [6] (fSeq (fVar 2)) (gN 6) tYesD (fOp ixD (fVar 6) (fC (.int 1)))))) (sCons (sSet 4 (fCl allF (aCons (fLc [6, 7] (fL zipD (aCons (fVar 2) (aCons (fSl (fVar 2) (pSome (fC (.int 1))) pNone) aNil))) (gTupD 2 (gConsD (gN 6) (gConsD (gN 7) gNilD))) tYesD (fOp eqD (fOp ixD (fVar 6) (fC (.int 1))) (fOp ixD (fVar 7) (fC (.int 0))))) aNil))) (sRet (fAndV (fVar 4) (fCl allF (aCons (fLc [8, 9] (fL enumD (aCons (fVar 3) aNil)) (gTupD 2 (gConsD (gN 8) (gConsD (gN 9) gNilD))) tYesD (fOp notInA (fVar 9) (fSl (fVar 3) pNone (pSome (fVar 8))))) aNil))))))))
def c_is_row_of : List D → R0 := defD N_is_row_of 2 false den_is_row_of
abbrev N_is_row : List Str := ["web", "value"]
def den_is_row : DL.Env → Out := (sCons (sExpr (fCall c_need_web (aCons (fVar 0) aNil))) (sRet (fCall c_is_row_of (aCons (fVar 0) (aCons (fVar 1) aNil)))))
def c_is_row : List D → R0 := defD N_is_row 2 false den_is_row
abbrev N_is_copy : List Str := ["value"]
def den_is_copy : DL.Env → Out := (sRet (fAndV (fCall c_is_tuple_of (aCons (fVar 0) (aCons (fC (.int 2)) aNil))) (fAndV (fCall c_is_bit (aCons (fOp ixD (fVar 0) (fC (.int 0))) aNil)) (fCall c_is_count (aCons (fOp ixD (fVar 0) (fC (.int 1))) aNil)))))
def c_is_copy : List D → R0 := defD N_is_copy 1 false den_is_copy
abbrev N_are_letters : List Str := ["value", "letter"]
def den_are_letters : DL.Env → Out := (sRet (fAndV (fCl isiF (aCons (fVar 0) (aCons (fC (.opq (.ty "list"))) aNil))) (fCl allF (aCons (fLc [1] (fSeq (fVar 0)) (gN 1) tYesD (fCall c_is_count (aCons (fVar 1) aNil))) aNil))))
def c_are_letters : List D → R0 := defD N_are_letters 1 false den_are_letters
abbrev N_is_word_wire : List Str := ["link", "value", "copy", "later"]
def den_is_word_wire : DL.Env → Out := (sCons (sIf (fOr (fNot (fTru (fCl isiF (aCons (fVar 1) (aCons (fC (.opq (.ty "list"))) aNil))))) (fOr (fBl (fOp gtD (fCl lenF (aCons (fVar 1) aNil)) (fOp ixD (fVar 0) (fC (.int 0))))) (fNot (fTru (fCl allF (aCons (fLc [2] (fSeq (fVar 1)) (gN 2) tYesD (fCall c_is_copy (aCons (fVar 2) aNil))) aNil)))))) (sRet (fC (.bl false))) sNil) (sRet (fCl allF (aCons (fLc [2, 3] (fL zipD (aCons (fVar 1) (aCons (fSl (fVar 1) (pSome (fC (.int 1))) pNone) aNil))) (gTupD 2 (gConsD (gN 2) (gConsD (gN 3) gNilD))) tYesD (fOp leD (fVar 2) (fVar 3))) aNil))))
def c_is_word_wire : List D → R0 := defD N_is_word_wire 2 false den_is_word_wire
abbrev N_is_word_sender : List Str := ["link", "value"]
def den_is_word_sender : DL.Env → Out := (sRet (fAndV (fCall c_is_tuple_of (aCons (fVar 1) (aCons (fC (.int 3)) aNil))) (fAndV (fCall c_is_copy (aCons (fSl (fVar 1) pNone (pSome (fC (.int 2)))) aNil)) (fAndV (fCall c_is_count (aCons (fOp ixD (fVar 1) (fC (.int 2))) aNil)) (fOp ltD (fOp ixD (fVar 1) (fC (.int 2))) (fOp ixD (fVar 0) (fC (.int 3))))))))
def c_is_word_sender : List D → R0 := defD N_is_word_sender 2 false den_is_word_sender
abbrev N_is_word_receiver : List Str := ["link", "value", "lot"]
def den_is_word_receiver : DL.Env → Out := (sCons (sIf (fOr (fNot (fTru (fCall c_is_tuple_of (aCons (fVar 1) (aCons (fC (.int 3)) aNil))))) (fOr (fNot (fTru (fCall c_is_bit (aCons (fOp ixD (fVar 1) (fC (.int 0))) aNil)))) (fNot (fTru (fCl isiF (aCons (fOp ixD (fVar 1) (fC (.int 2))) (aCons (fC (.opq (.ty "bool"))) aNil))))))) (sRet (fC (.bl false))) sNil) (sCons (sSet 2 (fOp ixD (fVar 1) (fC (.int 1)))) (sCons (sIf (fBl (fOp isN (fVar 2) (fC .non))) (sRet (fC (.bl true))) sNil) (sRet (fAndV (fCall c_is_tuple_of (aCons (fVar 2) (aCons (fC (.int 2)) aNil))) (fAndV (fCall c_is_count (aCons (fOp ixD (fVar 2) (fC (.int 0))) aNil)) (fAndV (fCall c_is_count (aCons (fOp ixD (fVar 2) (fC (.int 1))) aNil)) (fChain ltD ltD (fC (.int 0)) (fOp ixD (fVar 2) (fC (.int 1))) (fOp ixD (fVar 0) (fC (.int 2)))))))))))
def c_is_word_receiver : List D → R0 := defD N_is_word_receiver 2 false den_is_word_receiver
abbrev N_fits_words : List Str := ["link", "value", "sender", "receiver", "there", "back"]
def den_fits_words : DL.Env → Out := (sCons (sIf (fNot (fTru (fCall c_is_tuple_of (aCons (fVar 1) (aCons (fC (.int 4)) aNil))))) (sRet (fC (.bl false))) sNil) (sCons (sAsg (fVar 1) (gTupD 4 (gConsD (gN 2) (gConsD (gN 3) (gConsD (gN 4) (gConsD (gN 5) gNilD)))))) (sCons (sIf (fOr (fNot (fTru (fCall c_is_word_sender (aCons (fVar 0) (aCons (fVar 2) aNil))))) (fNot (fTru (fCall c_is_word_receiver (aCons (fVar 0) (aCons (fVar 3) aNil)))))) (sRet (fC (.bl false))) sNil) (sRet (fAndV (fCall c_is_word_wire (aCons (fVar 0) (aCons (fVar 4) aNil))) (fCall c_are_counts (aCons (fVar 5) (aCons (fC (.int 2)) (aCons (fOp ixD (fVar 0) (fC (.int 1))) aNil)))))))))
def c_fits_words : List D → R0 := defD N_fits_words 2 false den_fits_words
abbrev N_is_word_event : List Str := ["value"]
def den_is_word_event : DL.Env → Out := (sCons (sIf (fBl (fOp eqD (fVar 0) (fCl tupD (aCons (fC (.str (Str.ofString "send"))) aNil)))) (sRet (fC (.bl true))) sNil) (sCons (sIf (fNot (fTru (fCall c_is_tuple_of (aCons (fVar 0) (aCons (fC (.int 2)) aNil))))) (sRet (fC (.bl false))) sNil) (sCons (sIf (fBl (fOp inA (fOp ixD (fVar 0) (fC (.int 0))) (fCl tupD (aCons (fC (.str (Str.ofString "drop"))) (aCons (fC (.str (Str.ofString "bring"))) aNil))))) (sRet (fCall c_is_copy (aCons (fOp ixD (fVar 0) (fC (.int 1))) aNil))) sNil) (sRet (fAndV (fOp inA (fOp ixD (fVar 0) (fC (.int 0))) (fCl tupD (aCons (fC (.str (Str.ofString "miss"))) (aCons (fC (.str (Str.ofString "hear"))) aNil)))) (fCall c_is_bit (aCons (fOp ixD (fVar 0) (fC (.int 1))) aNil)))))))
def c_is_word_event : List D → R0 := defD N_is_word_event 1 false den_is_word_event
abbrev N_can_come : List Str := ["link", "words", "event"]
def den_can_come : DL.Env → Out := (sCons (sIf (fBl (fOp eqD (fOp ixD (fVar 2) (fC (.int 0))) (fC (.str (Str.ofString "send"))))) (sRet (fOp ltD (fCl lenF (aCons (fOp ixD (fVar 1) (fC (.int 2))) aNil)) (fOp ixD (fVar 0) (fC (.int 0))))) sNil) (sCons (sIf (fBl (fOp inA (fOp ixD (fVar 2) (fC (.int 0))) (fCl tupD (aCons (fC (.str (Str.ofString "drop"))) (aCons (fC (.str (Str.ofString "bring"))) aNil))))) (sRet (fOp inA (fOp ixD (fVar 2) (fC (.int 1))) (fOp ixD (fVar 1) (fC (.int 2))))) sNil) (sRet (fOp gtD (fOp ixD (fOp ixD (fVar 1) (fC (.int 3))) (fOp ixD (fVar 2) (fC (.int 1)))) (fC (.int 0))))))
def c_can_come : List D → R0 := defD N_can_come 3 false den_can_come
abbrev N_without : List Str := ["there", "copy", "place"]
def den_without : DL.Env → Out := (sCons (sSet 2 (fIdxL (fVar 0) (fVar 1))) (sRet (fOp addD (fSl (fVar 0) pNone (pSome (fVar 2))) (fSl (fVar 0) (pSome (fOp addD (fVar 2) (fC (.int 1)))) pNone))))
def c_without : List D → R0 := defD N_without 2 false den_without
abbrev N_how_handed : List Str := ["new", "done"]
def den_how_handed : DL.Env → Out := (sCons (sIf (fNot (fTru (fVar 0))) (sRet (fC (.str (Str.ofString "made")))) sNil) (sRet (fIf (fTru (fVar 1)) (fC (.str (Str.ofString "twice"))) (fC (.str (Str.ofString "right"))))))
def c_how_handed : List D → R0 := defD N_how_handed 2 false den_how_handed
abbrev N_word_brought : List Str := ["link", "words", "copy", "sender", "own", "lot", "done", "there", "back", "mark", "many"]
def den_word_brought : DL.Env → Out := (sCons (sAsg (fVar 1) (gTupD 4 (gConsD (gN 3) (gConsD (gTupD 3 (gConsD (gN 4) (gConsD (gN 5) (gConsD (gN 6) gNilD)))) (gConsD (gN 7) (gConsD (gN 8) gNilD)))))) (sCons (sSet 9 (fC .non)) (sCons (sSet 10 (fIf (fAnd (fBl (fOp notN (fVar 5) (fC .non))) (fBl (fOp eqD (fOp ixD (fVar 5) (fC (.int 0))) (fOp ixD (fVar 2) (fC (.int 1)))))) (fOp addD (fOp ixD (fVar 5) (fC (.int 1))) (fC (.int 1))) (fC (.int 1)))) (sCons (sIf (fBl (fOp eqD (fOp ixD (fVar 2) (fC (.int 0))) (fVar 4))) (sSet 5 (fC .non)) (sIf (fBl (fOp ltD (fVar 10) (fOp ixD (fVar 0) (fC (.int 2))))) (sSet 5 (fCl tupD (aCons (fOp ixD (fVar 2) (fC (.int 1))) (aCons (fVar 10) aNil)))) (sCons (sSet 9 (fCl tupD (aCons (fCall c_how_handed (aCons (fOp eqD (fVar 2) (fSl (fVar 3) pNone (pSome (fC (.int 2))))) (aCons (fVar 6) aNil))) (aCons (fOp ixD (fVar 2) (fC (.int 1))) aNil)))) (sPar3 4 5 6 (aCons (fOp ixD (fVar 2) (fC (.int 0))) (aCons (fC .non) (aCons (fOrV (fVar 6) (fOp eqD (fVar 2) (fSl (fVar 3) pNone (pSome (fC (.int 2)))))) aNil))))))) (sCons (sIf (fAnd (fBl (fOp eqD (fOp ixD (fVar 2) (fC (.int 0))) (fVar 4))) (fBl (fOp ltD (fCl sumF (aCons (fVar 8) aNil)) (fOp ixD (fVar 0) (fC (.int 1)))))) (sSet 8 (fCall c_changed (aCons (fVar 8) (aCons (fVar 4) (aCons (fC (.int 1)) aNil))))) sNil) (sRet (fCl tupD (aCons (fCl tupD (aCons (fVar 3) (aCons (fCl tupD (aCons (fVar 4) (aCons (fVar 5) (aCons (fVar 6) aNil)))) (aCons (fCall c_without (aCons (fVar 7) (aCons (fVar 2) aNil))) (aCons (fVar 8) aNil))))) (aCons (fVar 9) aNil)))))))))
def c_word_brought : List D → R0 := defD N_word_brought 3 false den_word_brought
abbrev N_word_answered : List Str := ["link", "words", "letter", "bit", "sent", "heard", "own", "lot", "done", "there", "back"]
def den_word_answered : DL.Env → Out := (sCons (sAsg (fVar 1) (gTupD 4 (gConsD (gTupD 3 (gConsD (gN 3) (gConsD (gN 4) (gConsD (gN 5) gNilD)))) (gConsD (gTupD 3 (gConsD (gN 6) (gConsD (gN 7) (gConsD (gN 8) gNilD)))) (gConsD (gN 9) (gConsD (gN 10) gNilD)))))) (sCons (sIf (fBl (fOp ltD (fOp addD (fVar 5) (fC (.int 1))) (fOp ixD (fVar 0) (fC (.int 3))))) (sRet (fCl tupD (aCons (fCl tupD (aCons (fCl tupD (aCons (fVar 3) (aCons (fVar 4) (aCons (fOp addD (fVar 5) (fC (.int 1))) aNil)))) (aCons (fCl tupD (aCons (fVar 6) (aCons (fVar 7) (aCons (fVar 8) aNil)))) (aCons (fVar 9) (aCons (fVar 10) aNil))))) (aCons (fC .non) aNil)))) sNil) (sRet (fCl tupD (aCons (fCl tupD (aCons (fCl tupD (aCons (fOp subD (fC (.int 1)) (fVar 3)) (aCons (fVar 2) (aCons (fC (.int 0)) aNil)))) (aCons (fCl tupD (aCons (fVar 6) (aCons (fVar 7) (aCons (fC (.bl false)) aNil)))) (aCons (fVar 9) (aCons (fVar 10) aNil))))) (aCons (fIf (fTru (fVar 8)) (fC .non) (fCl tupD (aCons (fC (.str (Str.ofString "lost"))) (aCons (fVar 4) aNil)))) aNil))))))
def c_word_answered : List D → R0 := defD N_word_answered 3 false den_word_answered
abbrev N_word_moved : List Str := ["link", "words", "event", "letter", "sender", "receiver", "there", "back", "later"]
def den_word_moved : DL.Env → Out := (sCons (sAsg (fVar 1) (gTupD 4 (gConsD (gN 4) (gConsD (gN 5) (gConsD (gN 6) (gConsD (gN 7) gNilD)))))) (sCons (sIf (fBl (fOp eqD (fOp ixD (fVar 2) (fC (.int 0))) (fC (.str (Str.ofString "send"))))) (sRet (fCl tupD (aCons (fCl tupD (aCons (fVar 4) (aCons (fVar 5) (aCons (fCl sort2F (aCons (fOp addD (fVar 6) (fCl lstD (aCons (fSl (fVar 4) pNone (pSome (fC (.int 2)))) aNil))) aNil)) (aCons (fVar 7) aNil))))) (aCons (fC .non) aNil)))) sNil) (sCons (sIf (fBl (fOp eqD (fOp ixD (fVar 2) (fC (.int 0))) (fC (.str (Str.ofString "drop"))))) (sRet (fCl tupD (aCons (fCl tupD (aCons (fVar 4) (aCons (fVar 5) (aCons (fCall c_without (aCons (fVar 6) (aCons (fOp ixD (fVar 2) (fC (.int 1))) aNil))) (aCons (fVar 7) aNil))))) (aCons (fC .non) aNil)))) sNil) (sCons (sIf (fBl (fOp eqD (fOp ixD (fVar 2) (fC (.int 0))) (fC (.str (Str.ofString "bring"))))) (sRet (fCall c_word_brought (aCons (fVar 0) (aCons (fVar 1) (aCons (fOp ixD (fVar 2) (fC (.int 1))) aNil))))) sNil) (sCons (sSet 8 (fCl tupD (aCons (fVar 4) (aCons (fVar 5) (aCons (fVar 6) (aCons (fCall c_changed (aCons (fVar 7) (aCons (fOp ixD (fVar 2) (fC (.int 1))) (aCons (fUn negD (fC (.int 1))) aNil)))) aNil)))))) (sCons (sIf (fBl (fOp eqD (fVar 2) (fCl tupD (aCons (fC (.str (Str.ofString "hear"))) (aCons (fOp ixD (fVar 4) (fC (.int 0))) aNil))))) (sRet (fCall c_word_answered (aCons (fVar 0) (aCons (fVar 8) (aCons (fVar 3) aNil))))) sNil) (sRet (fCl tupD (aCons (fVar 8) (aCons (fC .non) aNil))))))))))
def c_word_moved : List D → R0 := defD N_word_moved 4 false den_word_moved
abbrev N_word_gone : List Str := ["link", "words", "given", "events", "sender", "receiver", "there", "back", "marks", "used", "event", "letter", "mark"]
def p_word_gone_0 : DL.Env → Out := (sAsg (fVar 1) (gTupD 4 (gConsD (gN 4) (gConsD (gN 5) (gConsD (gN 6) (gConsD (gN 7) gNilD))))))
def p_word_gone_1 : DL.Env → Out := (sPar3 1 8 9 (aCons (fCl tupD (aCons (fVar 4) (aCons (fVar 5) (aCons (fCl lstF (aCons (fVar 6) aNil)) (aCons (fVar 7) aNil))))) (aCons (fCl lstD aNil) (aCons (fC (.int 0)) aNil))))
def p_word_gone_2 : DL.Env → Out := (sRet (fCl tupD (aCons (fC .non) (aCons (fVar 8) (aCons (fVar 9) aNil)))))
def p_word_gone_3 : DL.Env → Out := (sIf (fNot (fTru (fCall c_can_come (aCons (fVar 0) (aCons (fVar 1) (aCons (fVar 10) aNil)))))) p_word_gone_2 sNil)
def p_word_gone_4 : DL.Env → Out := (sRet (fCl tupD (aCons (fVar 1) (aCons (fC .non) (aCons (fVar 9) aNil)))))
def p_word_gone_5 : DL.Env → Out := (sIf (fBl (fOp eqD (fVar 9) (fCl lenF (aCons (fVar 2) aNil)))) p_word_gone_4 sNil)
def p_word_gone_6 : DL.Env → Out := (sIf (fTru (fCall c_ends_turn (aCons (fVar 0) (aCons (fVar 1) (aCons (fVar 10) aNil))))) (sCons p_word_gone_5 (sCons (sSet 11 (fOp ixD (fVar 2) (fVar 9))) (sAug 9 (· + ·) (fC (.int 1))))) sNil)
def p_word_gone_7 : DL.Env → Out := (sAsg (fCall c_word_moved (aCons (fVar 0) (aCons (fVar 1) (aCons (fVar 10) (aCons (fVar 11) aNil))))) (gTupD 2 (gConsD (gN 1) (gConsD (gN 12) gNilD))))
def p_word_gone_8 : DL.Env → Out := (sIf (fBl (fOp notN (fVar 12) (fC .non))) (sApp 8 (fVar 12)) sNil)
def b_word_gone_9 : DL.Env → Out := (sCons p_word_gone_3 (sCons (sSet 11 (fC .non)) (sCons p_word_gone_6 (sCons p_word_gone_7 p_word_gone_8))))
def p_word_gone_10 : DL.Env → Out := (sFor (fSeq (fVar 3)) (gN 10) b_word_gone_9)
def p_word_gone_11 : DL.Env → Out := (sRet (fCl tupD (aCons (fVar 1) (aCons (fVar 8) (aCons (fVar 9) aNil)))))
def den_word_gone : DL.Env → Out := (sCons p_word_gone_0 (sCons p_word_gone_1 (sCons p_word_gone_10 p_word_gone_11)))
def c_word_gone : List D → R0 := defD N_word_gone 4 false den_word_gone
abbrev N_wrong_among : List Str := ["marks", "kind", "_"]
def den_wrong_among : DL.Env → Out := (sRet (fLc [1, 2] (fSeq (fVar 0)) (gTupD 2 (gConsD (gN 1) (gConsD (gN 2) gNilD))) (fBl (fOp inA (fVar 1) (fC g_WRONG))) (fVar 1)))
def c_wrong_among : List D → R0 := defD N_wrong_among 1 true den_wrong_among
abbrev N_need_words : List Str := ["link", "words"]
def den_need_words : DL.Env → Out := (sCons (sExpr (fCall c_need_link (aCons (fVar 0) aNil))) (sIf (fNot (fTru (fCall c_fits_words (aCons (fVar 0) (aCons (fVar 1) aNil))))) sBad sNil))
def c_need_words : List D → R0 := defD N_need_words 2 false den_need_words
abbrev N_need_letters : List Str := ["value"]
def den_need_letters : DL.Env → Out := (sIf (fNot (fTru (fCall c_are_letters (aCons (fVar 0) aNil)))) sBad sNil)
def c_need_letters : List D → R0 := defD N_need_letters 1 false den_need_letters
abbrev N_need_sound_words : List Str := ["link", "words"]
def den_need_sound_words : DL.Env → Out := (sCons (sExpr (fCall c_need_words (aCons (fVar 0) (aCons (fVar 1) aNil)))) (sExpr (fCall c_need_sound (aCons (fVar 0) aNil))))
def c_need_sound_words : List D → R0 := defD N_need_sound_words 2 false den_need_sound_words
abbrev N_is_word_run : List Str := ["value", "event"]
def den_is_word_run : DL.Env → Out := (sRet (fAndV (fCl isiF (aCons (fVar 0) (aCons (fC (.opq (.ty "list"))) aNil))) (fCl allF (aCons (fLc [1] (fSeq (fVar 0)) (gN 1) tYesD (fCall c_is_word_event (aCons (fVar 1) aNil))) aNil))))
def c_is_word_run : List D → R0 := defD N_is_word_run 1 false den_is_word_run
abbrev N_is_word_contents : List Str := ["link", "value"]
def den_is_word_contents : DL.Env → Out := (sCons (sExpr (fCall c_need_link (aCons (fVar 0) aNil))) (sRet (fCall c_fits_words (aCons (fVar 0) (aCons (fVar 1) aNil)))))
def c_is_word_contents : List D → R0 := defD N_is_word_contents 2 false den_is_word_contents
abbrev N_word_events : List Str := ["link", "words", "_", "there", "back", "copies", "bits", "found", "ahead", "copy", "bit", "many", "word"]
def den_word_events : DL.Env → Out := (sCons (sExpr (fCall c_need_words (aCons (fVar 0) (aCons (fVar 1) aNil)))) (sCons (sAsg (fVar 1) (gTupD 4 (gConsD (gN 2) (gConsD (gN 2) (gConsD (gN 3) (gConsD (gN 4) gNilD)))))) (sCons (sSet 5 (fOp addD (fSl (fVar 3) pNone (pSome (fC (.int 1)))) (fLc [8, 9] (fL zipD (aCons (fVar 3) (aCons (fSl (fVar 3) (pSome (fC (.int 1))) pNone) aNil))) (gTupD 2 (gConsD (gN 8) (gConsD (gN 9) gNilD))) (fBl (fOp neD (fVar 9) (fVar 8))) (fVar 9)))) (sCons (sSet 6 (fLc [10, 11] (fL enumD (aCons (fVar 4) aNil)) (gTupD 2 (gConsD (gN 10) (gConsD (gN 11) gNilD))) (fBl (fOp gtD (fVar 11) (fC (.int 0)))) (fVar 10))) (sCons (sSetO 7 (fLc2 [12, 9] [9] (fSeq (fCl tupD (aCons (fC (.str (Str.ofString "bring"))) (aCons (fC (.str (Str.ofString "drop"))) aNil)))) (gN 12) tYesD (fSeq (fVar 5)) (gN 9) tYesD (fCl tupD (aCons (fVar 12) (aCons (fVar 9) aNil))))) (sCons (sExt 7 (fLc2 [12, 10] [10] (fSeq (fCl tupD (aCons (fC (.str (Str.ofString "hear"))) (aCons (fC (.str (Str.ofString "miss"))) aNil)))) (gN 12) tYesD (fSeq (fVar 6)) (gN 10) tYesD (fCl tupD (aCons (fVar 12) (aCons (fVar 10) aNil))))) (sRet (fOp catD (fVar 7) (fIf (fBl (fOp ltD (fCl lenF (aCons (fVar 3) aNil)) (fOp ixD (fVar 0) (fC (.int 0))))) (fCl lstD (aCons (fCl tupD (aCons (fC (.str (Str.ofString "send"))) aNil)) aNil)) (fCl lstD aNil))))))))))
def c_word_events : List D → R0 := defD N_word_events 2 true den_word_events
abbrev N_word_run : List Str := ["link", "words", "given", "events", "told", "later", "marks", "_", "due", "handed", "kind", "letter"]
def den_word_run : DL.Env → Out := (sCons (sExpr (fCall c_need_words (aCons (fVar 0) (aCons (fVar 1) aNil)))) (sCons (sExpr (fCall c_need_letters (aCons (fVar 2) aNil))) (sCons (sSet 4 (fIf (fTru (fCall c_is_word_run (aCons (fVar 3) aNil))) (fCall c_word_gone (aCons (fVar 0) (aCons (fVar 1) (aCons (fVar 2) (aCons (fVar 3) aNil))))) (fCl tupD (aCons (fC .non) (aCons (fC .non) (aCons (fC (.int 0)) aNil)))))) (sCons (sIf (fBl (fOp isN (fOp ixD (fVar 4) (fC (.int 0))) (fC .non))) sBad sNil) (sCons (sIf (fBl (fOp isN (fOp ixD (fVar 4) (fC (.int 1))) (fC .non))) sBad sNil) (sCons (sAsg (fVar 4) (gTupD 3 (gConsD (gN 5) (gConsD (gN 6) (gConsD (gN 7) gNilD))))) (sCons (sSet 8 (fLc [10, 11] (fSeq (fVar 6)) (gTupD 2 (gConsD (gN 10) (gConsD (gN 11) gNilD))) (fBl (fOp inA (fVar 10) (fCl tupD (aCons (fC (.str (Str.ofString "right"))) (aCons (fC (.str (Str.ofString "lost"))) aNil))))) (fVar 11))) (sCons (sSet 9 (fLc [10, 11] (fSeq (fVar 6)) (gTupD 2 (gConsD (gN 10) (gConsD (gN 11) gNilD))) (fBl (fOp neD (fVar 10) (fC (.str (Str.ofString "lost"))))) (fVar 11))) (sRet (fCl tupD (aCons (fVar 5) (aCons (fVar 8) (aCons (fVar 9) (aCons (fCall c_wrong_among (aCons (fVar 6) aNil)) aNil))))))))))))))
def c_word_run : List D → R0 := defD N_word_run 4 false den_word_run
abbrev N_in_word_lot : List Str := ["words", "letter", "lot"]
def den_in_word_lot : DL.Env → Out := (sCons (sSet 2 (fOp ixD (fOp ixD (fVar 0) (fC (.int 1))) (fC (.int 1)))) (sRet (fIf (fAnd (fBl (fOp notN (fVar 2) (fC .non))) (fBl (fOp eqD (fOp ixD (fVar 2) (fC (.int 0))) (fVar 1)))) (fOp ixD (fVar 2) (fC (.int 1))) (fC (.int 0)))))
def c_in_word_lot : List D → R0 := defD N_in_word_lot 2 false den_in_word_lot
abbrev N_unlike_letter : List Str := ["words", "lot", "_", "letter"]
def den_unlike_letter : DL.Env → Out := (sCons (sSet 1 (fOp ixD (fOp ixD (fVar 0) (fC (.int 1))) (fC (.int 1)))) (sRet (fOp addD (fC (.int 1)) (fCl maxLF (aCons (fOp addD (fOp addD (fCl lstD (aCons (fOp ixD (fOp ixD (fVar 0) (fC (.int 0))) (fC (.int 1))) aNil)) (fLc [2, 3] (fSeq (fOp ixD (fVar 0) (fC (.int 2)))) (gTupD 2 (gConsD (gN 2) (gConsD (gN 3) gNilD))) tYesD (fVar 3))) (fIf (fBl (fOp isN (fVar 1) (fC .non))) (fCl lstD aNil) (fCl lstD (aCons (fOp ixD (fVar 1) (fC (.int 0))) aNil)))) aNil)))))
def c_unlike_letter : List D → R0 := defD N_unlike_letter 1 false den_unlike_letter
abbrev N_is_telling : List Str := ["value"]
def den_is_telling : DL.Env → Out := (sRet (fAndV (fCall c_is_tuple_of (aCons (fVar 0) (aCons (fC (.int 2)) aNil))) (fAndV (fOp inA (fOp ixD (fVar 0) (fC (.int 0))) (fCl tupD (aCons (fC (.str (Str.ofString "right"))) (aCons (fC (.str (Str.ofString "lost"))) (aCons (fC (.str (Str.ofString "made"))) aNil))))) (fCall c_is_count (aCons (fOp ixD (fVar 0) (fC (.int 1))) aNil)))))
def c_is_telling : List D → R0 := defD N_is_telling 1 false den_is_telling
abbrev N_is_odd_of : List Str := ["contents", "even"]
def den_is_odd_of : DL.Env → Out := (sCons (sSet 1 (fOp eqD (fOp ixD (fOp ixD (fVar 0) (fC (.int 0))) (fC (.int 0))) (fOp ixD (fOp ixD (fVar 0) (fC (.int 1))) (fC (.int 0))))) (sRet (fOp neD (fVar 1) (fOp ixD (fOp ixD (fVar 0) (fC (.int 1))) (fC (.int 2))))))
def c_is_odd_of : List D → R0 := defD N_is_odd_of 1 false den_is_odd_of
abbrev N_is_odd : List Str := ["link", "contents"]
def den_is_odd : DL.Env → Out := (sCons (sExpr (fCall c_need_contents (aCons (fVar 0) (aCons (fVar 1) aNil)))) (sRet (fCall c_is_odd_of (aCons (fVar 1) aNil))))
def c_is_odd : List D → R0 := defD N_is_odd 2 false den_is_odd
abbrev N_odd_between : List Str := ["link", "contents", "other"]
def den_odd_between : DL.Env → Out := (sCons (sExpr (fCall c_need_contents (aCons (fVar 0) (aCons (fVar 1) aNil)))) (sCons (sIf (fNot (fTru (fCall c_fits_link (aCons (fVar 0) (aCons (fVar 2) aNil))))) sBad sNil) (sRet (fOp neD (fCall c_is_odd_of (aCons (fVar 1) aNil)) (fCall c_is_odd_of (aCons (fVar 2) aNil))))))
def c_odd_between : List D → R0 := defD N_odd_between 3 false den_odd_between
abbrev N_sets_free : List Str := ["link", "contents", "event", "later"]
def den_sets_free : DL.Env → Out := (sCons (sSet 3 (fCall c_moved (aCons (fVar 0) (aCons (fVar 1) (aCons (fVar 2) aNil))))) (sRet (fAndV (fOp isN (fCall c_wrong_between (aCons (fVar 1) (aCons (fVar 2) (aCons (fVar 3) aNil)))) (fC .non)) (fOp ltD (fCall c_harm_of (aCons (fVar 0) (aCons (fVar 3) aNil))) (fCall c_harm_of (aCons (fVar 0) (aCons (fVar 1) aNil)))))))
def c_sets_free : List D → R0 := defD N_sets_free 3 false den_sets_free
abbrev N_freeing_events : List Str := ["link", "contents", "event"]
def den_freeing_events : DL.Env → Out := (sCons (sExpr (fCall c_need_sound_contents (aCons (fVar 0) (aCons (fVar 1) aNil)))) (sRet (fLc [2] (fSeq (fCall c_events_of (aCons (fVar 0) (aCons (fVar 1) aNil)))) (gN 2) (fTru (fCall c_sets_free (aCons (fVar 0) (aCons (fVar 1) (aCons (fVar 2) aNil))))) (fVar 2))))
def c_freeing_events : List D → R0 := defD N_freeing_events 2 true den_freeing_events
abbrev N_freed : List Str := ["link", "contents", "far", "later", "marks"]
def den_freed : DL.Env → Out := (sCons (sAsg (fCall c_far_told (aCons (fVar 0) (aCons (fVar 1) (aCons (fVar 2) aNil)))) (gTupD 2 (gConsD (gN 3) (gConsD (gN 4) gNilD)))) (sCons (sExpr (fCall c_need_sound (aCons (fVar 0) aNil))) (sRet (fOp fdivD (fOp subD (fOp subD (fCall c_harm_of (aCons (fVar 0) (aCons (fVar 1) aNil))) (fCall c_harm_of (aCons (fVar 0) (aCons (fVar 3) aNil)))) (fCl lenF (aCons (fCall c_wrongs_of (aCons (fVar 4) aNil)) aNil))) (fC (.int 2))))))
def c_freed : List D → R0 := defD N_freed 3 false den_freed
abbrev N_turns_to_settle : List Str := ["link", "contents", "even", "_", "answers_suffice", "old_suffice"]
def den_turns_to_settle : DL.Env → Out := (sCons (sIf (fBl (fOp eqD (fCall c_harm_of (aCons (fVar 0) (aCons (fVar 1) aNil))) (fC (.int 0)))) (sRet (fC (.int 0))) sNil) (sCons (sAsg (fCall c_signs_of (aCons (fVar 0) (aCons (fVar 1) aNil))) (gTupD 4 (gConsD (gN 2) (gConsD (gN 3) (gConsD (gN 4) (gConsD (gN 5) gNilD)))))) (sRet (fIf (fAnd (fTru (fVar 4)) (fOr (fNot (fTru (fVar 2))) (fTru (fVar 5)))) (fC (.int 2)) (fC (.int 1))))))
def c_turns_to_settle : List D → R0 := defD N_turns_to_settle 2 false den_turns_to_settle
abbrev N_settled_by : List Str := ["link", "contents"]
def den_settled_by : DL.Env → Out := (sCons (sExpr (fCall c_need_sound_contents (aCons (fVar 0) (aCons (fVar 1) aNil)))) (sRet (fCall c_turns_to_settle (aCons (fVar 0) (aCons (fVar 1) aNil)))))
def c_settled_by : List D → R0 := defD N_settled_by 2 false den_settled_by
abbrev N_unsettled_run : List Str := ["link", "contents", "turns", "bit", "heard"]
def den_unsettled_run : DL.Env → Out := (sCons (sExpr (fCall c_need_sound_contents (aCons (fVar 0) (aCons (fVar 1) aNil)))) (sCons (sSet 2 (fCall c_turns_to_settle (aCons (fVar 0) (aCons (fVar 1) aNil)))) (sCons (sIf (fBl (fOp eqD (fVar 2) (fC (.int 0)))) (sRet (fC .non)) sNil) (sCons (sAsg (fOp ixD (fVar 1) (fC (.int 0))) (gTupD 2 (gConsD (gN 3) (gConsD (gN 4) gNilD)))) (sRet (fIf (fBl (fOp eqD (fVar 2) (fC (.int 2)))) (fCl lstD (aCons (fCl tupD (aCons (fCl lstD (aCons (fCl tupD (aCons (fC (.str (Str.ofString "hear"))) (aCons (fVar 3) aNil))) aNil)) (aCons (fOp subD (fOp ixD (fVar 0) (fC (.int 3))) (fVar 4)) aNil))) aNil)) (fCl lstD aNil)))))))
def c_unsettled_run : List D → R0 := defD N_unsettled_run 2 false den_unsettled_run
abbrev N_is_unsettled_run : List Str := ["link", "contents", "value", "told"]
def den_is_unsettled_run : DL.Env → Out := (sCons (sExpr (fCall c_need_sound_contents (aCons (fVar 0) (aCons (fVar 1) aNil)))) (sCons (sSet 3 (fIf (fTru (fCall c_is_far_run (aCons (fVar 2) aNil))) (fCall c_far_gone (aCons (fVar 0) (aCons (fVar 1) (aCons (fVar 2) aNil)))) (fC .non))) (sCons (sIf (fOr (fBl (fOp isN (fVar 3) (fC .non))) (fBl (fOp neD (fCall c_turns_of (aCons (fOp ixD (fVar 3) (fC (.int 1))) aNil)) (fOp subD (fCall c_turns_to_settle (aCons (fVar 0) (aCons (fVar 1) aNil))) (fC (.int 1)))))) (sRet (fC (.bl false))) sNil) (sRet (fOp gtD (fCall c_harm_of (aCons (fVar 0) (aCons (fOp ixD (fVar 3) (fC (.int 0))) aNil))) (fC (.int 0)))))))
def c_is_unsettled_run : List D → R0 := defD N_is_unsettled_run 3 false den_is_unsettled_run
abbrev N_wrongs_in_two : List Str := ["link", "contents", "many"]
def den_wrongs_in_two : DL.Env → Out := (sCons (sSet 2 (fCall c_harm_of (aCons (fVar 0) (aCons (fVar 1) aNil)))) (sRet (fIf (fBl (fOp gtD (fVar 2) (fC (.int 1)))) (fCl lstD (aCons (fOp subD (fVar 2) (fC (.int 2))) (aCons (fVar 2) aNil))) (fCl lstD (aCons (fVar 2) aNil)))))
def c_wrongs_in_two : List D → R0 := defD N_wrongs_in_two 2 true den_wrongs_in_two
abbrev N_need_wrongs : List Str := ["link", "contents", "many"]
def den_need_wrongs : DL.Env → Out := (sCons (sExpr (fCall c_need_contents (aCons (fVar 0) (aCons (fVar 1) aNil)))) (sCons (sExpr (fCall c_need_number (aCons (fVar 2) aNil))) (sExpr (fCall c_need_sound (aCons (fVar 0) aNil)))))
def c_need_wrongs : List D → R0 := defD N_need_wrongs 3 false den_need_wrongs
abbrev N_need_places : List Str := ["number"]
def den_need_places : DL.Env → Out := (sIf (fOr (fNot (fTru (fCall c_is_count (aCons (fVar 0) aNil)))) (fBl (fOp ltD (fVar 0) (fC (.int 1))))) sBad sNil)
def c_need_places : List D → R0 := defD N_need_places 1 false den_need_places
abbrev N_two_turn_wrongs : List Str := ["link", "contents"]
def den_two_turn_wrongs : DL.Env → Out := (sCons (sExpr (fCall c_need_sound_contents (aCons (fVar 0) (aCons (fVar 1) aNil)))) (sRet (fCall c_wrongs_in_two (aCons (fVar 0) (aCons (fVar 1) aNil)))))
def c_two_turn_wrongs : List D → R0 := defD N_two_turn_wrongs 2 true den_two_turn_wrongs
abbrev N_is_two_turn_run : List Str := ["link", "contents", "many", "value", "told"]
def den_is_two_turn_run : DL.Env → Out := (sCons (sExpr (fCall c_need_wrongs (aCons (fVar 0) (aCons (fVar 1) (aCons (fVar 2) aNil))))) (sCons (sSet 4 (fIf (fTru (fCall c_is_far_run (aCons (fVar 3) aNil))) (fCall c_far_gone (aCons (fVar 0) (aCons (fVar 1) (aCons (fVar 3) aNil)))) (fC .non))) (sRet (fAndV (fOp notN (fVar 4) (fC .non)) (fAndV (fOp eqD (fCall c_turns_of (aCons (fOp ixD (fVar 4) (fC (.int 1))) aNil)) (fC (.int 2))) (fOp eqD (fCl lenF (aCons (fCall c_wrongs_of (aCons (fOp ixD (fVar 4) (fC (.int 1))) aNil)) aNil)) (fVar 2)))))))
def c_is_two_turn_run : List D → R0 := defD N_is_two_turn_run 4 false den_is_two_turn_run
abbrev N_lies_in : List Str := ["link", "contents", "other"]
def den_lies_in : DL.Env → Out := (sCons (sExpr (fCall c_need_contents (aCons (fVar 0) (aCons (fVar 1) aNil)))) (sCons (sExpr (fCall c_need_link (aCons (fVar 2) aNil))) (sRet (fCall c_fits_link (aCons (fVar 2) (aCons (fVar 1) aNil))))))
def c_lies_in : List D → R0 := defD N_lies_in 3 false den_lies_in
abbrev N_cheapest_sound : List Str := ["places", "back"]
def den_cheapest_sound : DL.Env → Out := (sCons (sExpr (fCall c_need_places (aCons (fVar 0) aNil))) (sCons (sExpr (fCall c_need_places (aCons (fVar 1) aNil))) (sRet (fCl tupD (aCons (fVar 0) (aCons (fVar 1) (aCons (fVar 0) (aCons (fVar 1) aNil))))))))
def c_cheapest_sound : List D → R0 := defD N_cheapest_sound 2 false den_cheapest_sound
abbrev N_price : List Str := ["places", "back"]
def den_price : DL.Env → Out := (sRet (fCall c_cost_of_turn (aCons (fCall c_cheapest_sound (aCons (fVar 0) (aCons (fVar 1) aNil))) aNil)))
def c_price : List D → R0 := defD N_price 2 false den_price
abbrev N_forgets : List Str := ["marks", "forged", "ends"]
def den_forgets : DL.Env → Out := (sCons (sSet 2 (fCall c_turns_of (aCons (fVar 0) aNil))) (sRet (fIf (fBl (fOp eqD (fVar 1) (fC (.str (Str.ofString "answers"))))) (fOp gtD (fVar 2) (fC (.int 0))) (fOp gtD (fCl lenF (aCons (fVar 0) aNil)) (fVar 2)))))
def c_forgets : List D → R0 := defD N_forgets 2 false den_forgets
abbrev N_need_forger : List Str := ["link", "kind"]
def den_need_forger : DL.Env → Out := (sCons (sExpr (fCall c_need_link (aCons (fVar 0) aNil))) (sCons (sIf (fBl (fOp notInA (fVar 1) (fCl tupD (aCons (fC (.str (Str.ofString "copy"))) (aCons (fC (.str (Str.ofString "answer"))) aNil))))) sBad sNil) (sExpr (fCall c_need_sound (aCons (fVar 0) aNil)))))
def c_need_forger : List D → R0 := defD N_need_forger 2 false den_need_forger
abbrev N_spare : List Str := ["link"]
def den_spare : DL.Env → Out := (sCons (sExpr (fCall c_need_link (aCons (fVar 0) aNil))) (sCons (sExpr (fCall c_need_sound (aCons (fVar 0) aNil))) (sRet (fCl tupD (aCons (fOp subD (fOp ixD (fVar 0) (fC (.int 2))) (fOp ixD (fVar 0) (fC (.int 0)))) (aCons (fOp subD (fOp ixD (fVar 0) (fC (.int 3))) (fOp ixD (fVar 0) (fC (.int 1)))) aNil))))))
def c_spare : List D → R0 := defD N_spare 1 false den_spare
abbrev N_unforgiven : List Str := ["link", "kind", "kept", "more", "fault", "event", "items", "_"]
def p_unforgiven_0 : DL.Env → Out := (sExpr (fCall c_need_forger (aCons (fVar 0) (aCons (fVar 1) aNil))))
def p_unforgiven_1 : DL.Env → Out := (sAsg (fCl tupD (aCons (fOp subD (fOp ixD (fVar 0) (fC (.int 0))) (fC (.int 1))) (aCons (fOp subD (fOp ixD (fVar 0) (fC (.int 2))) (fOp ixD (fVar 0) (fC (.int 0)))) (aCons (fCl tupD (aCons (fC (.str (Str.ofString "copy"))) (aCons (fC (.int 0)) aNil))) (aCons (fCl tupD (aCons (fC (.str (Str.ofString "bring"))) (aCons (fC (.str (Str.ofString "zero"))) aNil))) aNil))))) (gTupD 4 (gConsD (gN 2) (gConsD (gN 3) (gConsD (gN 4) (gConsD (gN 5) gNilD))))))
def p_unforgiven_2 : DL.Env → Out := (sSetO 6 (fCall c_copies_kept (aCons (fVar 0) (aCons (fC (.int 0)) (aCons (fVar 2) aNil)))))
def p_unforgiven_3 : DL.Env → Out := (sAsg (fCl tupD (aCons (fOp subD (fOp ixD (fVar 0) (fC (.int 1))) (fC (.int 1))) (aCons (fOp subD (fOp ixD (fVar 0) (fC (.int 3))) (fOp ixD (fVar 0) (fC (.int 1)))) (aCons (fCl tupD (aCons (fC (.str (Str.ofString "answer"))) (aCons (fC (.int 0)) aNil))) (aCons (fCl tupD (aCons (fC (.str (Str.ofString "hear"))) (aCons (fC (.int 0)) aNil))) aNil))))) (gTupD 4 (gConsD (gN 2) (gConsD (gN 3) (gConsD (gN 4) (gConsD (gN 5) gNilD))))))
def p_unforgiven_4 : DL.Env → Out := (sSetO 6 (fCall c_answers_kept (aCons (fVar 0) (aCons (fC (.int 0)) (aCons (fVar 2) aNil)))))
def p_unforgiven_5 : DL.Env → Out := (sIf (fBl (fOp eqD (fVar 1) (fC (.str (Str.ofString "copy"))))) (sCons p_unforgiven_1 p_unforgiven_2) (sCons p_unforgiven_3 p_unforgiven_4))
def p_unforgiven_6 : DL.Env → Out := (sExt 6 (fCl lstD (aCons (fVar 4) (aCons (fCl tupD (aCons (fCl lstD (aCons (fVar 5) aNil)) (aCons (fC (.int 1)) aNil))) aNil))))
def b_unforgiven_7 : DL.Env → Out := p_unforgiven_6
def p_unforgiven_8 : DL.Env → Out := (sFor (fL rng1D (aCons (fOp addD (fVar 3) (fC (.int 1))) aNil)) (gN 7) b_unforgiven_7)
def p_unforgiven_9 : DL.Env → Out := (sRet (fOp catD (fVar 6) (fCall c_often (aCons (fCl lstD (aCons (fVar 5) aNil)) (aCons (fVar 2) aNil)))))
def den_unforgiven : DL.Env → Out := (sCons p_unforgiven_0 (sCons p_unforgiven_5 (sCons p_unforgiven_8 p_unforgiven_9)))
def c_unforgiven : List D → R0 := defD N_unforgiven 2 true den_unforgiven
end PG


namespace LB
open PySem PySem.Spec PyProof.Rows L2 DL
open PG
abbrev N__law_hash : List Str := ["seed", "index", "mixed"]
def den__law_hash : DL.Env → Out := (sCons (sSet 2 (fOp modD (fCl intF (aCons (fOp addD (fOp addD (fOp addD (fOp mulD (fVar 0) (fC (.int 1140671))) (fOp mulD (fOp mulD (fC (.int 27644437)) (fVar 1)) (fVar 1))) (fOp mulD (fC (.int 131)) (fVar 1))) (fC (.int 19))) aNil)) (fC (.int 2147483629)))) (sCons (sSet 2 (fOp modD (fCl intF (aCons (fOp addD (fOp addD (fOp mulD (fVar 2) (fVar 2)) (fOp mulD (fC (.int 62089)) (fVar 1))) (fC (.int 32416187))) aNil)) (fC (.int 2147483587)))) (sRet (fOp modD (fCl intF (aCons (fOp mulD (fVar 2) (fC (.int 48271))) aNil)) (fC (.int 2147483647))))))
def c__law_hash : List D → R0 := defD N__law_hash 2 false den__law_hash
abbrev N__law_random : List Str := ["generator", "bound", "drawn", "turn"]
def p__law_random_0 : DL.Env → Out := (sSet 2 (fOp modD (fCl intF (aCons (fLend (fOp ixD (fVar 0) (fC (.int 0)))) aNil)) (fVar 1)))
def p__law_random_1 : DL.Env → Out := (sSub 0 (fOp fdivD (fLend (fOp ixD (fVar 0) (fC (.int 0)))) (fVar 1)) (fC (.int 0)))
def p__law_random_2 : DL.Env → Out := (sIf (fBl (fOp gtD (fLend (fOp ixD (fVar 0) (fC (.int 0)))) (fC (.int 0)))) (sCons p__law_random_0 (sCons p__law_random_1 (sRet (fVar 2)))) sNil)
def p__law_random_3 : DL.Env → Out := (sSub 0 (fOp addD (fLend (fOp ixD (fVar 0) (fC (.int 2)))) (fC (.int 1))) (fC (.int 2)))
def p__law_random_4 : DL.Env → Out := (sSet 2 (fOp addD (fOp mulD (fVar 2) (fC (.int 2147483587))) (fCall c__law_hash (aCons (fLend (fOp ixD (fVar 0) (fC (.int 1)))) (aCons (fLend (fOp ixD (fVar 0) (fC (.int 2)))) aNil)))))
def b__law_random_5 : DL.Env → Out := (sCons p__law_random_3 p__law_random_4)
def p__law_random_6 : DL.Env → Out := (sFor (fL rng1D (aCons (fOp addD (fC (.int 1)) (fOp fdivD (fUn bitsD (fVar 1)) (fC (.int 30)))) aNil)) (gN 3) b__law_random_5)
def den__law_random : DL.Env → Out := (sCons p__law_random_2 (sCons (sSet 2 (fC (.int 0))) (sCons p__law_random_6 (sRet (fOp modD (fCl intF (aCons (fVar 2) aNil)) (fVar 1))))))
def c__law_random : List D → R1 := genD N__law_random 2 false den__law_random
abbrev N__law_cell : List Str := ["script", "index"]
def den__law_cell : DL.Env → Out := (sCons (sIf (fBl (fOp ltD (fVar 1) (fCl lenF (aCons (fVar 0) aNil)))) (sRet (fOp ixD (fVar 0) (fVar 1))) sNil) (sRet (fOp modD (fCl sumF (aCons (fSl (fVar 0) pNone (pSome (fC (.int 1)))) aNil)) (fC (.int 1000003)))))
def c__law_cell : List D → R0 := defD N__law_cell 2 false den__law_cell
abbrev N__law_generator : List Str := ["script", "index", "seed"]
def den__law_generator : DL.Env → Out := (sCons (sSet 2 (fCall c__law_cell (aCons (fVar 0) (aCons (fVar 1) aNil)))) (sRet (fCl lstD (aCons (fOp modD (fCl intF (aCons (fCl maxF (aCons (fOp subD (fVar 2) (fOp powD (fC (.int 10)) (fC (.int 18)))) (aCons (fC (.int 0)) aNil))) aNil)) (fOp powD (fOp powD (fC (.int 10)) (fC (.int 60))) (fC (.int 10)))) (aCons (fOp modD (fCl intF (aCons (fVar 2) aNil)) (fC (.int 2147483647))) (aCons (fOp mulD (fC (.int 1000)) (fVar 1)) aNil))))))
def c__law_generator : List D → R0 := defD N__law_generator 2 true den__law_generator
end LB


namespace L21
open PySem PySem.Spec PyProof.Rows L2 DL
open LB
abbrev N__law_contents : List Str := ["_law_generator_here", "_law_link_told", "_law_places_told", "_law_back_places", "_law_copies", "_law_answers", "_law_bit", "_law_other", "_law_many", "_law_lot", "_law_new", "_law_zeros", "_law_ones", "_law_first", "_law_back"]
def p__law_contents_0 : DL.Env → Out := (sAsg (fVar 1) (gTupD 4 (gConsD (gN 2) (gConsD (gN 3) (gConsD (gN 4) (gConsD (gN 5) gNilD))))))
def p__law_contents_1 : DL.Env → Out := (sPar2 6 7 (aCons (fCallG 0 c__law_random (aCons (fC (.int 2)) aNil)) (aCons (fCallG 0 c__law_random (aCons (fC (.int 2)) aNil)) aNil)))
def p__law_contents_2 : DL.Env → Out := (sPar2 8 9 (aCons (fCallG 0 c__law_random (aCons (fVar 4) aNil)) (aCons (fC .non) aNil)))
def p__law_contents_3 : DL.Env → Out := (sSet 9 (fCl tupD (aCons (fIf (fBl (fOp neD (fVar 6) (fVar 7))) (fOp ixD (fCl lstD (aCons (fC (.str (Str.ofString "new"))) (aCons (fC (.str (Str.ofString "old"))) aNil))) (fCallG 0 c__law_random (aCons (fC (.int 2)) aNil))) (fC (.str (Str.ofString "old")))) (aCons (fVar 8) aNil))))
def p__law_contents_4 : DL.Env → Out := (sIf (fBl (fOp gtD (fVar 8) (fC (.int 0)))) p__law_contents_3 sNil)
def p__law_contents_5 : DL.Env → Out := (sSet 10 (fCallG 0 c__law_random (aCons (fOp addD (fVar 2) (fC (.int 1))) aNil)))
def p__law_contents_6 : DL.Env → Out := (sSet 11 (fCallG 0 c__law_random (aCons (fOp subD (fOp addD (fVar 2) (fC (.int 1))) (fVar 10)) aNil)))
def p__law_contents_7 : DL.Env → Out := (sSet 12 (fCallG 0 c__law_random (aCons (fOp subD (fOp subD (fOp addD (fVar 2) (fC (.int 1))) (fVar 10)) (fVar 11)) aNil)))
def p__law_contents_8 : DL.Env → Out := (sSet 13 (fCallG 0 c__law_random (aCons (fOp addD (fVar 3) (fC (.int 1))) aNil)))
def p__law_contents_9 : DL.Env → Out := (sSet 14 (fCl tupD (aCons (fVar 13) (aCons (fCallG 0 c__law_random (aCons (fOp subD (fOp addD (fVar 3) (fC (.int 1))) (fVar 13)) aNil)) aNil))))
def p__law_contents_10 : DL.Env → Out := (sRet (fCl tupD (aCons (fCl tupD (aCons (fVar 6) (aCons (fCallG 0 c__law_random (aCons (fVar 5) aNil)) aNil))) (aCons (fCl tupD (aCons (fVar 7) (aCons (fVar 9) (aCons (fOp eqD (fCallG 0 c__law_random (aCons (fC (.int 2)) aNil)) (fC (.int 1))) aNil)))) (aCons (fCl tupD (aCons (fVar 10) (aCons (fVar 11) (aCons (fVar 12) aNil)))) (aCons (fVar 14) aNil))))))
def den__law_contents : DL.Env → Out := (sCons p__law_contents_0 (sCons p__law_contents_1 (sCons p__law_contents_2 (sCons p__law_contents_4 (sCons p__law_contents_5 (sCons p__law_contents_6 (sCons p__law_contents_7 (sCons p__law_contents_8 (sCons p__law_contents_9 p__law_contents_10)))))))))
def c__law_contents : List D → R1 := genD N__law_contents 2 false den__law_contents
abbrev N__law_link : List Str := ["_law_generator_here", "_law_most", "_law_places_told", "_law_back_places"]
def p__law_link_0 : DL.Env → Out := (sPar2 2 3 (aCons (fOp addD (fC (.int 1)) (fCallG 0 c__law_random (aCons (fVar 1) aNil))) (aCons (fOp addD (fC (.int 1)) (fCallG 0 c__law_random (aCons (fVar 1) aNil))) aNil)))
def p__law_link_1 : DL.Env → Out := (sRet (fCl tupD (aCons (fVar 2) (aCons (fVar 3) (aCons (fOp addD (fVar 2) (fCallG 0 c__law_random (aCons (fC (.int 2)) aNil))) (aCons (fOp addD (fVar 3) (fCallG 0 c__law_random (aCons (fC (.int 2)) aNil))) aNil))))))
def p__law_link_2 : DL.Env → Out := (sIf (fBl (fOp eqD (fCallG 0 c__law_random (aCons (fC (.int 2)) aNil)) (fC (.int 0)))) p__law_link_1 sNil)
def p__law_link_3 : DL.Env → Out := (sRet (fCl tupD (aCons (fVar 2) (aCons (fVar 3) (aCons (fOp addD (fC (.int 1)) (fCallG 0 c__law_random (aCons (fVar 1) aNil))) (aCons (fOp addD (fC (.int 1)) (fCallG 0 c__law_random (aCons (fVar 1) aNil))) aNil))))))
def den__law_link : DL.Env → Out := (sCons p__law_link_0 (sCons p__law_link_2 p__law_link_3))
def c__law_link : List D → R1 := genD N__law_link 2 false den__law_link
end L21


namespace K45
open PySem PySem.Spec PyProof.Rows L2 DL
open L21
open LB
open PG
abbrev N_is_tuple_of : List Str := ["value", "size"]
abbrev N_is_whole : List Str := ["value"]
abbrev N_is_count : List Str := ["value"]
abbrev N_is_link : List Str := ["value", "number"]
abbrev N_need_link : List Str := ["link"]
abbrev N_are_counts : List Str := ["value", "size", "most", "count"]
abbrev N_is_bit : List Str := ["value"]
abbrev N_is_sender : List Str := ["link", "value"]
abbrev N_is_lot : List Str := ["link", "unlike", "value"]
abbrev N_is_receiver : List Str := ["link", "sent", "value", "bit", "lot", "done"]
abbrev N_fits_link : List Str := ["link", "value", "sender", "receiver", "there", "back"]
abbrev N_need_contents : List Str := ["link", "contents"]
abbrev N_seen_of : List Str := ["contents", "sender", "own", "lot", "_", "new", "zeros", "ones", "back", "there"]
abbrev N_view_of : List Str := ["link", "contents"]
abbrev N_is_seen_receiver : List Str := ["link", "value"]
abbrev N_is_view_of : List Str := ["link", "value", "sender", "receiver", "there", "back"]
abbrev N_need_view : List Str := ["link", "view"]
abbrev N_are_places : List Str := ["value", "place", "further"]
abbrev N_covered : List Str := ["link", "view", "places", "place", "seen"]
abbrev N_fits_view : List Str := ["contents", "view", "seen", "told"]
abbrev N_looks_so : List Str := ["link", "contents", "view"]
abbrev N__law_hash : List Str := ["_law_seed", "_law_index", "_law_mixed"]
abbrev N__law_random : List Str := ["_law_generator_here", "_law_bound", "_law_drawn", "_law_turn"]
abbrev N__law_link : List Str := ["_law_generator_here", "_law_most", "_law_places_told", "_law_back_places"]
abbrev N__law_odd : List Str := ["_law_generator_here", "_law_link_told", "_law_look_told", "_law_found", "_law_parts", "_law_part", "_law_at", "_law_place"]
def p__law_odd_0 : DL.Env → Out := (sSetO 3 (fCl lstD (aCons (fVar 2) (aCons (fC .non) (aCons (fC (.int 5)) (aCons (fC (.str (Str.ofString ""))) (aCons (fCl tupD aNil) (aCons (fCl lstD aNil) (aCons (fC (.dct [])) (aCons (fCl lstF (aCons (fVar 2) aNil)) (aCons (fSl (fVar 2) pNone (pSome (fC (.int 3)))) (aCons (fOp addD (fVar 2) (fCl tupD (aCons (fC .non) aNil))) aNil))))))))))))
def p__law_odd_1 : DL.Env → Out := (sSet 4 (fCl lstD (aCons (fC .non) (aCons (fC (.int 5)) (aCons (fCl tupD aNil) (aCons (fCl tupD (aCons (fC (.int 0)) aNil)) (aCons (fCl tupD (aCons (fC (.int 0)) (aCons (fC (.int 0)) (aCons (fC (.int 0)) aNil)))) (aCons (fCl lstD (aCons (fC (.int 0)) (aCons (fC (.int 0)) aNil))) (aCons (fCl tupD (aCons (fC (.int 0)) (aCons (fC (.bl true)) aNil))) (aCons (fCl tupD (aCons (fC (.bl true)) (aCons (fC (.int 0)) aNil))) (aCons (fCl tupD (aCons (fC (.int 0)) (aCons (fOp subD (fC (.int 0)) (fC (.int 1))) aNil))) (aCons (fCl tupD (aCons (fOp subD (fC (.int 0)) (fC (.int 1))) (aCons (fC (.int 0)) aNil))) (aCons (fCl tupD (aCons (fC (.int 2)) (aCons (fC (.int 0)) aNil))) (aCons (fCl tupD (aCons (fC (.str (Str.ofString "0"))) (aCons (fC (.int 0)) aNil))) (aCons (fCl tupD (aCons (fC .non) (aCons (fC (.int 0)) aNil))) (aCons (fCl tupD (aCons (fC (.dct [])) (aCons (fC (.int 0)) aNil))) aNil))))))))))))))))
def p__law_odd_2 : DL.Env → Out := (sSet 4 (fOp addD (fOp addD (fVar 4) (fLc [6] (fL rng1D (aCons (fC (.int 4)) aNil)) (gN 6) tYesD (fCl tupD (aCons (fC (.int 0)) (aCons (fOp ixD (fVar 1) (fVar 6)) aNil))))) (fLc [6] (fL rng1D (aCons (fC (.int 4)) aNil)) (gN 6) tYesD (fCl tupD (aCons (fOp ixD (fVar 1) (fVar 6)) (aCons (fC (.int 0)) aNil))))))
def p__law_odd_3 : DL.Env → Out := (sSet 4 (fOp addD (fOp addD (fVar 4) (fLc [6] (fL rng1D (aCons (fC (.int 4)) aNil)) (gN 6) tYesD (fCl tupD (aCons (fC (.int 1)) (aCons (fOp subD (fOp ixD (fVar 1) (fVar 6)) (fC (.int 1))) aNil))))) (fLc [6] (fL rng1D (aCons (fC (.int 4)) aNil)) (gN 6) tYesD (fCl tupD (aCons (fC (.int 0)) (aCons (fOp addD (fOp ixD (fVar 1) (fVar 6)) (fC (.int 1))) aNil))))))
def p__law_odd_4 : DL.Env → Out := (sApp 3 (fCl tupF (aCons (fLc [7] (fL rng1D (aCons (fC (.int 4)) aNil)) (gN 7) tYesD (fIf (fBl (fOp eqD (fVar 7) (fVar 6))) (fVar 5) (fOp ixD (fVar 2) (fVar 7)))) aNil)))
def b__law_odd_5 : DL.Env → Out := (sCons (sSet 6 (fCallG 0 c__law_random (aCons (fC (.int 4)) aNil))) p__law_odd_4)
def p__law_odd_6 : DL.Env → Out := (sFor (fSeq (fVar 4)) (gN 5) b__law_odd_5)
def den__law_odd : DL.Env → Out := (sCons p__law_odd_0 (sCons p__law_odd_1 (sCons p__law_odd_2 (sCons p__law_odd_3 (sCons p__law_odd_6 (sRetV 3))))))
def c__law_odd : List D → R1 := genD N__law_odd 3 true den__law_odd
abbrev N__law_contents : List Str := ["_law_generator_here", "_law_link_told", "_law_places_told", "_law_back_places", "_law_copies", "_law_answers", "_law_bit", "_law_other", "_law_many", "_law_lot", "_law_new", "_law_zeros", "_law_ones", "_law_first", "_law_back"]
abbrev N__law_counts : List Str := ["_law_generator_here", "_law_most", "_law_first"]
def p__law_counts_0 : DL.Env → Out := (sSet 2 (fCallG 0 c__law_random (aCons (fOp addD (fVar 1) (fC (.int 1))) aNil)))
def p__law_counts_1 : DL.Env → Out := (sRet (fCl tupD (aCons (fVar 2) (aCons (fCallG 0 c__law_random (aCons (fOp subD (fOp addD (fVar 1) (fC (.int 1))) (fVar 2)) aNil)) aNil))))
def den__law_counts : DL.Env → Out := (sCons p__law_counts_0 p__law_counts_1)
def c__law_counts : List D → R1 := genD N__law_counts 2 false den__law_counts
abbrev N__law_look : List Str := ["_law_generator_here", "_law_link_told", "_law_places_told", "_law_back_places", "_law_copies", "_law_answers", "_law_whole", "_law_part"]
def p__law_look_0 : DL.Env → Out := (sAsg (fVar 1) (gTupD 4 (gConsD (gN 2) (gConsD (gN 3) (gConsD (gN 4) (gConsD (gN 5) gNilD))))))
def p__law_look_1 : DL.Env → Out := (sSet 6 (fCl lstD (aCons (fCl tupD (aCons (fCallG 0 c__law_random (aCons (fC (.int 2)) aNil)) (aCons (fCallG 0 c__law_random (aCons (fVar 5) aNil)) aNil))) (aCons (fCl tupD (aCons (fCallG 0 c__law_random (aCons (fC (.int 2)) aNil)) (aCons (fCallG 0 c__law_random (aCons (fVar 4) aNil)) aNil))) aNil))))
def p__law_look_2 : DL.Env → Out := (sSet 6 (fOp addD (fVar 6) (fCl lstD (aCons (fCallG 0 c__law_counts (aCons (fVar 2) aNil)) (aCons (fCallG 0 c__law_counts (aCons (fVar 3) aNil)) aNil)))))
def p__law_look_3 : DL.Env → Out := (sRet (fCl tupF (aCons (fLc [7] (fSeq (fVar 6)) (gN 7) tYesD (fIf (fBl (fOp gtD (fCallG 0 c__law_random (aCons (fC (.int 3)) aNil)) (fC (.int 0)))) (fVar 7) (fC .non))) aNil)))
def den__law_look : DL.Env → Out := (sCons p__law_look_0 (sCons p__law_look_1 (sCons p__law_look_2 p__law_look_3)))
def c__law_look : List D → R1 := genD N__law_look 2 false den__law_look
abbrev N__law_seen : List Str := ["_law_here", "_law_bit", "_law_heard", "_law_other", "_law_lot", "_law_done", "_law_new", "_law_zeros", "_law_ones", "_law_back"]
def den__law_seen : DL.Env → Out := (sCons (sAsg (fVar 0) (gTupD 4 (gConsD (gTupD 2 (gConsD (gN 1) (gConsD (gN 2) gNilD))) (gConsD (gTupD 3 (gConsD (gN 3) (gConsD (gN 4) (gConsD (gN 5) gNilD)))) (gConsD (gTupD 3 (gConsD (gN 6) (gConsD (gN 7) (gConsD (gN 8) gNilD)))) (gConsD (gN 9) gNilD)))))) (sRet (fCl tupD (aCons (fCl tupD (aCons (fVar 1) (aCons (fVar 2) aNil))) (aCons (fCl tupD (aCons (fVar 3) (aCons (fIf (fBl (fOp notN (fVar 4) (fC .non))) (fOp ixD (fVar 4) (fC (.int 1))) (fC (.int 0))) aNil))) (aCons (fIf (fBl (fOp eqD (fVar 1) (fC (.int 0)))) (fCl tupD (aCons (fOp addD (fVar 7) (fVar 6)) (aCons (fVar 8) aNil))) (fCl tupD (aCons (fVar 7) (aCons (fOp addD (fVar 8) (fVar 6)) aNil)))) (aCons (fVar 9) aNil)))))))
def c__law_seen : List D → R0 := defD N__law_seen 1 false den__law_seen
abbrev N__law_two : List Str := ["_law_some", "_law_most", "_law_item"]
def den__law_two : DL.Env → Out := (sCons (sIf (fBl (fOp isN (fVar 0) (fC .non))) (sRet (fC (.bl true))) sNil) (sCons (sIf (fOr (fNot (fTru (fCl isiF (aCons (fVar 0) (aCons (fC (.opq (.ty "tuple"))) aNil))))) (fOr (fBl (fOp neD (fCl lenF (aCons (fVar 0) aNil)) (fC (.int 2)))) (fBl (fOp neX (fLc [2] (fSeq (fVar 0)) (gN 2) (fOr (fTru (fCl isiF (aCons (fVar 2) (aCons (fC (.opq (.ty "bool"))) aNil)))) (fNot (fTru (fCl isiF (aCons (fVar 2) (aCons (fC (.opq (.ty "int"))) aNil)))))) (fVar 2)) (fCl lstD aNil))))) (sRet (fC (.bl false))) sNil) (sRet (fAndV (fOp geD (fOp ixD (fVar 0) (fC (.int 0))) (fC (.int 0))) (fAndV (fOp geD (fOp ixD (fVar 0) (fC (.int 1))) (fC (.int 0))) (fOp leD (fOp addD (fOp ixD (fVar 0) (fC (.int 0))) (fOp ixD (fVar 0) (fC (.int 1)))) (fVar 1)))))))
def c__law_two : List D → R0 := defD N__law_two 2 false den__law_two
abbrev N__law_pair : List Str := ["_law_some", "_law_most", "_law_item"]
def den__law_pair : DL.Env → Out := (sCons (sIf (fBl (fOp isN (fVar 0) (fC .non))) (sRet (fC (.bl true))) sNil) (sCons (sIf (fOr (fNot (fTru (fCl isiF (aCons (fVar 0) (aCons (fC (.opq (.ty "tuple"))) aNil))))) (fOr (fBl (fOp neD (fCl lenF (aCons (fVar 0) aNil)) (fC (.int 2)))) (fBl (fOp neX (fLc [2] (fSeq (fVar 0)) (gN 2) (fOr (fTru (fCl isiF (aCons (fVar 2) (aCons (fC (.opq (.ty "bool"))) aNil)))) (fNot (fTru (fCl isiF (aCons (fVar 2) (aCons (fC (.opq (.ty "int"))) aNil)))))) (fVar 2)) (fCl lstD aNil))))) (sRet (fC (.bl false))) sNil) (sRet (fAndV (fOp inA (fOp ixD (fVar 0) (fC (.int 0))) (fCl lstD (aCons (fC (.int 0)) (aCons (fC (.int 1)) aNil)))) (fChain leD ltD (fC (.int 0)) (fOp ixD (fVar 0) (fC (.int 1))) (fVar 1))))))
def c__law_pair : List D → R0 := defD N__law_pair 2 false den__law_pair
abbrev N__law_is_view : List Str := ["_law_link_told", "_law_some"]
def den__law_is_view : DL.Env → Out := (sCons (sIf (fOr (fNot (fTru (fCl isiF (aCons (fVar 1) (aCons (fC (.opq (.ty "tuple"))) aNil))))) (fOr (fBl (fOp neD (fCl lenF (aCons (fVar 1) aNil)) (fC (.int 4)))) (fOr (fNot (fTru (fCall c__law_pair (aCons (fOp ixD (fVar 1) (fC (.int 0))) (aCons (fOp ixD (fVar 0) (fC (.int 3))) aNil))))) (fNot (fTru (fCall c__law_pair (aCons (fOp ixD (fVar 1) (fC (.int 1))) (aCons (fOp ixD (fVar 0) (fC (.int 2))) aNil)))))))) (sRet (fC (.bl false))) sNil) (sRet (fAndV (fCall c__law_two (aCons (fOp ixD (fVar 1) (fC (.int 2))) (aCons (fOp ixD (fVar 0) (fC (.int 0))) aNil))) (fCall c__law_two (aCons (fOp ixD (fVar 1) (fC (.int 3))) (aCons (fOp ixD (fVar 0) (fC (.int 1))) aNil))))))
def c__law_is_view : List D → R0 := defD N__law_is_view 2 false den__law_is_view
abbrev N_is_view : List Str := ["link", "value"]
abbrev N__law_looks : List Str := ["_law_here", "_law_look_told", "_law_seen_here", "_law_at"]
def den__law_looks : DL.Env → Out := (sCons (sSet 2 (fCall c__law_seen (aCons (fVar 0) aNil))) (sRet (fOp eqX (fLc [3] (fL rng1D (aCons (fC (.int 4)) aNil)) (gN 3) (fAnd (fBl (fOp notN (fOp ixD (fVar 1) (fVar 3)) (fC .non))) (fBl (fOp neD (fOp ixD (fVar 1) (fVar 3)) (fOp ixD (fVar 2) (fVar 3))))) (fVar 3)) (fCl lstD aNil))))
def c__law_looks : List D → R0 := defD N__law_looks 2 false den__law_looks
abbrev N__law_right : List Str := ["_law_generator_here", "_law_link_told", "_law_here", "_law_look_told", "_law_kept", "_law_some", "_law_before", "_law_due", "_law_whole", "_law_places_told", "_law_mixed", "_law_view_told", "_law_turn", "_law_at"]
def p__law_right_0 : DL.Env → Out := (sSet 1 (fCl tupF (aCons (fLc [12] (fL rng1D (aCons (fC (.int 4)) aNil)) (gN 12) tYesD (fOp addD (fC (.int 1)) (fCallG 0 c__law_random (aCons (fOp powD (fC (.int 10)) (fC (.int 29))) aNil)))) aNil)))
def p__law_right_1 : DL.Env → Out := (sIf (fBl (fOp eqD (fCallG 0 c__law_random (aCons (fC (.int 3)) aNil)) (fC (.int 0)))) p__law_right_0 sNil)
def p__law_right_2 : DL.Env → Out := (sAsg (fCl tupD (aCons (fCallG 0 c__law_contents (aCons (fVar 1) aNil)) (aCons (fCallG 0 c__law_look (aCons (fVar 1) aNil)) aNil))) (gTupD 2 (gConsD (gN 2) (gConsD (gN 3) gNilD))))
def p__law_right_3 : DL.Env → Out := (sSet 4 (fCl reprE (aCons (fCl lstD (aCons (fVar 1) (aCons (fVar 2) (aCons (fVar 3) aNil)))) aNil)))
def p__law_right_4 : DL.Env → Out := (sPar2 6 7 (aCons (fCl reprE (aCons (fVar 5) aNil)) (aCons (fCall c__law_is_view (aCons (fVar 1) (aCons (fVar 5) aNil))) aNil)))
def p__law_right_5 : DL.Env → Out := (sIf (fOr (fBl (fOp neD (fCl reprE (aCons (fCall c_is_view (aCons (fVar 1) (aCons (fVar 5) aNil))) aNil)) (fCl reprE (aCons (fVar 7) aNil)))) (fOr (fBl (fOp neD (fCl reprE (aCons (fCallK c_is_view [1, 0] 2 (aCons (fVar 5) (aCons (fVar 1) aNil))) aNil)) (fCl reprE (aCons (fVar 7) aNil)))) (fBl (fOp neD (fCl reprE (aCons (fVar 5) aNil)) (fVar 6))))) (sRet (fC (.bl false))) sNil)
def b__law_right_6 : DL.Env → Out := (sCons p__law_right_4 p__law_right_5)
def p__law_right_7 : DL.Env → Out := (sFor (fSeq (fCallG 0 c__law_odd (aCons (fVar 1) (aCons (fVar 3) aNil)))) (gN 5) b__law_right_6)
def p__law_right_8 : DL.Env → Out := (sAsg (fCl tupD (aCons (fCall c__law_seen (aCons (fVar 2) aNil)) (aCons (fLc [13] (fL rng1D (aCons (fC (.int 4)) aNil)) (gN 13) (fBl (fOp eqD (fCallG 0 c__law_random (aCons (fC (.int 2)) aNil)) (fC (.int 0)))) (fVar 13)) aNil))) (gTupD 2 (gConsD (gN 8) (gConsD (gN 9) gNilD))))
def p__law_right_9 : DL.Env → Out := (sIf (fOr (fBl (fOp neD (fCl reprE (aCons (fCl lstD (aCons (fCall c_view_of (aCons (fVar 1) (aCons (fVar 2) aNil))) (aCons (fCallK c_view_of [1, 0] 2 (aCons (fVar 2) (aCons (fVar 1) aNil))) aNil))) aNil)) (fCl reprE (aCons (fCl lstD (aCons (fVar 8) (aCons (fVar 8) aNil))) aNil)))) (fBl (fOp notA (fCall c_is_view (aCons (fVar 1) (aCons (fVar 8) aNil))) (fC (.bl true))))) (sRet (fC (.bl false))) sNil)
def p__law_right_10 : DL.Env → Out := (sSet 10 (fCl tupF (aCons (fLc [13] (fL rng1D (aCons (fC (.int 4)) aNil)) (gN 13) tYesD (fIf (fBl (fOp eqD (fCallG 0 c__law_random (aCons (fC (.int 2)) aNil)) (fC (.int 0)))) (fOp ixD (fVar 8) (fVar 13)) (fOp ixD (fVar 3) (fVar 13)))) aNil)))
def p__law_right_11 : DL.Env → Out := (sPar2 7 6 (aCons (fCl tupF (aCons (fLc [13] (fL rng1D (aCons (fC (.int 4)) aNil)) (gN 13) tYesD (fIf (fBl (fOp inA (fVar 13) (fVar 9))) (fC .non) (fOp ixD (fVar 5) (fVar 13)))) aNil)) (aCons (fCl reprE (aCons (fVar 9) aNil)) aNil)))
def p__law_right_12 : DL.Env → Out := (sIf (fOr (fBl (fOp neD (fCl reprE (aCons (fCl lstD (aCons (fCall c_covered (aCons (fVar 1) (aCons (fVar 5) (aCons (fVar 9) aNil)))) (aCons (fCallK c_covered [2, 1, 0] 3 (aCons (fVar 9) (aCons (fVar 5) (aCons (fVar 1) aNil)))) aNil))) aNil)) (fCl reprE (aCons (fCl lstD (aCons (fVar 7) (aCons (fVar 7) aNil))) aNil)))) (fBl (fOp neD (fCl reprE (aCons (fVar 9) aNil)) (fVar 6)))) (sRet (fC (.bl false))) sNil)
def p__law_right_13 : DL.Env → Out := (sIf (fBl (fOp neD (fCl reprE (aCons (fCl lstD (aCons (fCall c_looks_so (aCons (fVar 1) (aCons (fVar 2) (aCons (fVar 11) aNil)))) (aCons (fCallK c_looks_so [2, 1, 0] 3 (aCons (fVar 11) (aCons (fVar 2) (aCons (fVar 1) aNil)))) aNil))) aNil)) (fCl reprE (aCons (fOp mulD (fCl lstD (aCons (fCall c__law_looks (aCons (fVar 2) (aCons (fVar 11) aNil))) aNil)) (fC (.int 2))) aNil)))) (sRet (fC (.bl false))) sNil)
def b__law_right_14 : DL.Env → Out := p__law_right_13
def p__law_right_15 : DL.Env → Out := (sFor (fSeq (fCl lstD (aCons (fVar 5) (aCons (fVar 7) aNil)))) (gN 11) b__law_right_14)
def b__law_right_16 : DL.Env → Out := (sCons p__law_right_11 (sCons p__law_right_12 p__law_right_15))
def p__law_right_17 : DL.Env → Out := (sFor (fSeq (fCl lstD (aCons (fVar 3) (aCons (fVar 8) (aCons (fVar 10) (aCons (fCl tupD (aCons (fC .non) (aCons (fC .non) (aCons (fC .non) (aCons (fC .non) aNil))))) aNil)))))) (gN 5) b__law_right_16)
def p__law_right_18 : DL.Env → Out := (sRet (fOp eqD (fCl reprE (aCons (fCl lstD (aCons (fVar 1) (aCons (fVar 2) (aCons (fVar 3) aNil)))) aNil)) (fVar 4)))
def den__law_right : DL.Env → Out := (sCons (sSet 1 (fCallG 0 c__law_link (aCons (fC (.int 3)) aNil))) (sCons p__law_right_1 (sCons p__law_right_2 (sCons p__law_right_3 (sCons p__law_right_7 (sCons p__law_right_8 (sCons p__law_right_9 (sCons p__law_right_10 (sCons p__law_right_17 p__law_right_18)))))))))
def c__law_right : List D → R1 := genD N__law_right 1 false den__law_right
abbrev N__law_cell : List Str := ["_law_script", "_law_index"]
abbrev N__law_generator : List Str := ["_law_script", "_law_index", "_law_seed"]
abbrev N_law : List Str := ["_law_script", "_law_index", "_law_some", "_law_told"]
def p_law_0 : DL.Env → Out := (sIf (fNot (fTru (fCallN c__law_right (fCall c__law_generator (aCons (fVar 0) (aCons (fVar 1) aNil))) aNil))) (sRet (fC (.bl false))) sNil)
def b_law_1 : DL.Env → Out := p_law_0
def p_law_2 : DL.Env → Out := (sFor (fL rng1D (aCons (fC (.int 3)) aNil)) (gN 1) b_law_1)
def p_law_3 : DL.Env → Out := (sSet 2 (fCl tupD (aCons (fCl tupD (aCons (fC (.int 0)) (aCons (fC (.int 1)) aNil))) (aCons (fCl tupD (aCons (fC (.int 1)) (aCons (fCl tupD (aCons (fC (.str (Str.ofString "old"))) (aCons (fC (.int 1)) aNil))) (aCons (fC (.bl false)) aNil)))) (aCons (fCl tupD (aCons (fC (.int 1)) (aCons (fC (.int 0)) (aCons (fC (.int 0)) aNil)))) (aCons (fCl tupD (aCons (fC (.int 1)) (aCons (fC (.int 0)) aNil))) aNil))))))
def p_law_4 : DL.Env → Out := (sSet 3 (fCl lstD (aCons (fCall c_view_of (aCons (fCl tupD (aCons (fC (.int 2)) (aCons (fC (.int 2)) (aCons (fC (.int 2)) (aCons (fC (.int 2)) aNil))))) (aCons (fVar 2) aNil))) (aCons (fCall c_covered (aCons (fCl tupD (aCons (fC (.int 2)) (aCons (fC (.int 2)) (aCons (fC (.int 2)) (aCons (fC (.int 2)) aNil))))) (aCons (fCall c_view_of (aCons (fCl tupD (aCons (fC (.int 2)) (aCons (fC (.int 2)) (aCons (fC (.int 2)) (aCons (fC (.int 2)) aNil))))) (aCons (fVar 2) aNil))) (aCons (fCl lstD (aCons (fC (.int 1)) (aCons (fC (.int 2)) aNil))) aNil)))) (aCons (fCall c_looks_so (aCons (fCl tupD (aCons (fC (.int 2)) (aCons (fC (.int 2)) (aCons (fC (.int 2)) (aCons (fC (.int 2)) aNil))))) (aCons (fVar 2) (aCons (fCl tupD (aCons (fC .non) (aCons (fCl tupD (aCons (fC (.int 1)) (aCons (fC (.int 1)) aNil))) (aCons (fC .non) (aCons (fCl tupD (aCons (fC (.int 1)) (aCons (fC (.int 0)) aNil))) aNil))))) aNil)))) aNil)))))
def p_law_5 : DL.Env → Out := (sSet 3 (fOp addD (fVar 3) (fCl lstD (aCons (fCall c_is_view (aCons (fCl tupD (aCons (fC (.int 2)) (aCons (fC (.int 2)) (aCons (fC (.int 2)) (aCons (fC (.int 2)) aNil))))) (aCons (fCl tupD (aCons (fC .non) (aCons (fC .non) (aCons (fC .non) (aCons (fC .non) aNil))))) aNil))) (aCons (fCall c_is_view (aCons (fCl tupD (aCons (fC (.int 2)) (aCons (fC (.int 2)) (aCons (fC (.int 2)) (aCons (fC (.int 2)) aNil))))) (aCons (fCl tupD (aCons (fCl tupD (aCons (fC (.int 0)) (aCons (fC (.int 2)) aNil))) (aCons (fC .non) (aCons (fC .non) (aCons (fC .non) aNil))))) aNil))) (aCons (fCall c_is_view (aCons (fCl tupD (aCons (fC (.int 2)) (aCons (fC (.int 2)) (aCons (fC (.int 2)) (aCons (fC (.int 2)) aNil))))) (aCons (fCl tupD (aCons (fC .non) (aCons (fCl tupD (aCons (fC (.int 1)) (aCons (fC (.int 1)) aNil))) (aCons (fCl tupD (aCons (fC (.int 3)) (aCons (fC (.int 0)) aNil))) (aCons (fC .non) aNil))))) aNil))) aNil))))))
def p_law_6 : DL.Env → Out := (sRet (fOp eqD (fCl reprE (aCons (fVar 3) aNil)) (fCl reprE (aCons (fCl lstD (aCons (fCl tupD (aCons (fCl tupD (aCons (fC (.int 0)) (aCons (fC (.int 1)) aNil))) (aCons (fCl tupD (aCons (fC (.int 1)) (aCons (fC (.int 1)) aNil))) (aCons (fCl tupD (aCons (fC (.int 1)) (aCons (fC (.int 0)) aNil))) (aCons (fCl tupD (aCons (fC (.int 1)) (aCons (fC (.int 0)) aNil))) aNil))))) (aCons (fCl tupD (aCons (fCl tupD (aCons (fC (.int 0)) (aCons (fC (.int 1)) aNil))) (aCons (fC .non) (aCons (fC .non) (aCons (fCl tupD (aCons (fC (.int 1)) (aCons (fC (.int 0)) aNil))) aNil))))) (aCons (fC (.bl true)) (aCons (fC (.bl true)) (aCons (fC (.bl false)) (aCons (fC (.bl false)) aNil))))))) aNil))))
def den_law : DL.Env → Out := (sCons p_law_2 (sCons p_law_3 (sCons p_law_4 (sCons p_law_5 p_law_6))))
def c_law : List D → R0 := defD N_law 1 false den_law
end K45


namespace K45
open PySem PySem.Spec PyProof.Rows L2 DL
open L21
open LB
open PG
def topS (i : Nat) : Stmt := PySem.Challenge.pw_healwires_k45_whole_views_judged.main.body.getD i (.Pass ⟨0, 0, 0, 0⟩)
abbrev s_is_tuple_of : Stmt := topS 10
theorem sc_is_tuple_of : FnScope N_is_tuple_of ["value", "size"] (defScope s_is_tuple_of) := ⟨rfl, rfl, rfl, by decide +kernel, rfl, by decide +kernel, by decide +kernel⟩
abbrev s_is_whole : Stmt := topS 7
theorem sc_is_whole : FnScope N_is_whole ["value"] (defScope s_is_whole) := ⟨rfl, rfl, rfl, by decide +kernel, rfl, by decide +kernel, by decide +kernel⟩
abbrev s_is_count : Stmt := topS 8
theorem sc_is_count : FnScope N_is_count ["value"] (defScope s_is_count) := ⟨rfl, rfl, rfl, by decide +kernel, rfl, by decide +kernel, by decide +kernel⟩
abbrev s_is_link : Stmt := topS 11
theorem sc_is_link : FnScope N_is_link ["value"] (defScope s_is_link) := ⟨rfl, rfl, rfl, by decide +kernel, rfl, by decide +kernel, by decide +kernel⟩
abbrev s_need_link : Stmt := topS 17
theorem sc_need_link : FnScope N_need_link ["link"] (defScope s_need_link) := ⟨rfl, rfl, rfl, by decide +kernel, rfl, by decide +kernel, by decide +kernel⟩
abbrev s_are_counts : Stmt := topS 16
theorem sc_are_counts : FnScope N_are_counts ["value", "size", "most"] (defScope s_are_counts) := ⟨rfl, rfl, rfl, by decide +kernel, rfl, by decide +kernel, by decide +kernel⟩
abbrev s_is_bit : Stmt := topS 9
theorem sc_is_bit : FnScope N_is_bit ["value"] (defScope s_is_bit) := ⟨rfl, rfl, rfl, by decide +kernel, rfl, by decide +kernel, by decide +kernel⟩
abbrev s_is_sender : Stmt := topS 13
theorem sc_is_sender : FnScope N_is_sender ["link", "value"] (defScope s_is_sender) := ⟨rfl, rfl, rfl, by decide +kernel, rfl, by decide +kernel, by decide +kernel⟩
abbrev s_is_lot : Stmt := topS 15
theorem sc_is_lot : FnScope N_is_lot ["link", "unlike", "value"] (defScope s_is_lot) := ⟨rfl, rfl, rfl, by decide +kernel, rfl, by decide +kernel, by decide +kernel⟩
abbrev s_is_receiver : Stmt := topS 14
theorem sc_is_receiver : FnScope N_is_receiver ["link", "sent", "value"] (defScope s_is_receiver) := ⟨rfl, rfl, rfl, by decide +kernel, rfl, by decide +kernel, by decide +kernel⟩
abbrev s_fits_link : Stmt := topS 12
theorem sc_fits_link : FnScope N_fits_link ["link", "value"] (defScope s_fits_link) := ⟨rfl, rfl, rfl, by decide +kernel, rfl, by decide +kernel, by decide +kernel⟩
abbrev s_need_contents : Stmt := topS 18
theorem sc_need_contents : FnScope N_need_contents ["link", "contents"] (defScope s_need_contents) := ⟨rfl, rfl, rfl, by decide +kernel, rfl, by decide +kernel, by decide +kernel⟩
abbrev s_seen_of : Stmt := topS 23
theorem sc_seen_of : FnScope N_seen_of ["contents"] (defScope s_seen_of) := ⟨rfl, rfl, rfl, by decide +kernel, rfl, by decide +kernel, by decide +kernel⟩
abbrev s_view_of : Stmt := topS 27
theorem sc_view_of : FnScope N_view_of ["link", "contents"] (defScope s_view_of) := ⟨rfl, rfl, rfl, by decide +kernel, rfl, by decide +kernel, by decide +kernel⟩
abbrev s_is_seen_receiver : Stmt := topS 20
theorem sc_is_seen_receiver : FnScope N_is_seen_receiver ["link", "value"] (defScope s_is_seen_receiver) := ⟨rfl, rfl, rfl, by decide +kernel, rfl, by decide +kernel, by decide +kernel⟩
abbrev s_is_view_of : Stmt := topS 21
theorem sc_is_view_of : FnScope N_is_view_of ["link", "value"] (defScope s_is_view_of) := ⟨rfl, rfl, rfl, by decide +kernel, rfl, by decide +kernel, by decide +kernel⟩
abbrev s_need_view : Stmt := topS 22
theorem sc_need_view : FnScope N_need_view ["link", "view"] (defScope s_need_view) := ⟨rfl, rfl, rfl, by decide +kernel, rfl, by decide +kernel, by decide +kernel⟩
abbrev s_are_places : Stmt := topS 25
theorem sc_are_places : FnScope N_are_places ["value"] (defScope s_are_places) := ⟨rfl, rfl, rfl, by decide +kernel, rfl, by decide +kernel, by decide +kernel⟩
abbrev s_covered : Stmt := topS 28
theorem sc_covered : FnScope N_covered ["link", "view", "places"] (defScope s_covered) := ⟨rfl, rfl, rfl, by decide +kernel, rfl, by decide +kernel, by decide +kernel⟩
abbrev s_fits_view : Stmt := topS 24
theorem sc_fits_view : FnScope N_fits_view ["contents", "view"] (defScope s_fits_view) := ⟨rfl, rfl, rfl, by decide +kernel, rfl, by decide +kernel, by decide +kernel⟩
abbrev s_looks_so : Stmt := topS 29
theorem sc_looks_so : FnScope N_looks_so ["link", "contents", "view"] (defScope s_looks_so) := ⟨rfl, rfl, rfl, by decide +kernel, rfl, by decide +kernel, by decide +kernel⟩
abbrev s__law_hash : Stmt := topS 31
theorem sc__law_hash : FnScope N__law_hash ["_law_seed", "_law_index"] (defScope s__law_hash) := ⟨rfl, rfl, rfl, by decide +kernel, rfl, by decide +kernel, by decide +kernel⟩
abbrev s__law_random : Stmt := topS 32
theorem sc__law_random : FnScope N__law_random ["_law_generator_here", "_law_bound"] (defScope s__law_random) := ⟨rfl, rfl, rfl, by decide +kernel, rfl, by decide +kernel, by decide +kernel⟩
abbrev s__law_link : Stmt := topS 36
theorem sc__law_link : FnScope N__law_link ["_law_generator_here", "_law_most"] (defScope s__law_link) := ⟨rfl, rfl, rfl, by decide +kernel, rfl, by decide +kernel, by decide +kernel⟩
abbrev s__law_odd : Stmt := topS 44
theorem sc__law_odd : FnScope N__law_odd ["_law_generator_here", "_law_link_told", "_law_look_told"] (defScope s__law_odd) := ⟨rfl, rfl, rfl, by decide +kernel, rfl, by decide +kernel, by decide +kernel⟩
abbrev s__law_contents : Stmt := topS 35
theorem sc__law_contents : FnScope N__law_contents ["_law_generator_here", "_law_link_told"] (defScope s__law_contents) := ⟨rfl, rfl, rfl, by decide +kernel, rfl, by decide +kernel, by decide +kernel⟩
abbrev s__law_counts : Stmt := topS 39
theorem sc__law_counts : FnScope N__law_counts ["_law_generator_here", "_law_most"] (defScope s__law_counts) := ⟨rfl, rfl, rfl, by decide +kernel, rfl, by decide +kernel, by decide +kernel⟩
abbrev s__law_look : Stmt := topS 40
theorem sc__law_look : FnScope N__law_look ["_law_generator_here", "_law_link_told"] (defScope s__law_look) := ⟨rfl, rfl, rfl, by decide +kernel, rfl, by decide +kernel, by decide +kernel⟩
abbrev s__law_seen : Stmt := topS 37
theorem sc__law_seen : FnScope N__law_seen ["_law_here"] (defScope s__law_seen) := ⟨rfl, rfl, rfl, by decide +kernel, rfl, by decide +kernel, by decide +kernel⟩
abbrev s__law_two : Stmt := topS 42
theorem sc__law_two : FnScope N__law_two ["_law_some", "_law_most"] (defScope s__law_two) := ⟨rfl, rfl, rfl, by decide +kernel, rfl, by decide +kernel, by decide +kernel⟩
abbrev s__law_pair : Stmt := topS 41
theorem sc__law_pair : FnScope N__law_pair ["_law_some", "_law_most"] (defScope s__law_pair) := ⟨rfl, rfl, rfl, by decide +kernel, rfl, by decide +kernel, by decide +kernel⟩
abbrev s__law_is_view : Stmt := topS 43
theorem sc__law_is_view : FnScope N__law_is_view ["_law_link_told", "_law_some"] (defScope s__law_is_view) := ⟨rfl, rfl, rfl, by decide +kernel, rfl, by decide +kernel, by decide +kernel⟩
abbrev s_is_view : Stmt := topS 26
theorem sc_is_view : FnScope N_is_view ["link", "value"] (defScope s_is_view) := ⟨rfl, rfl, rfl, by decide +kernel, rfl, by decide +kernel, by decide +kernel⟩
abbrev s__law_looks : Stmt := topS 38
theorem sc__law_looks : FnScope N__law_looks ["_law_here", "_law_look_told"] (defScope s__law_looks) := ⟨rfl, rfl, rfl, by decide +kernel, rfl, by decide +kernel, by decide +kernel⟩
abbrev s__law_right : Stmt := topS 45
theorem sc__law_right : FnScope N__law_right ["_law_generator_here"] (defScope s__law_right) := ⟨rfl, rfl, rfl, by decide +kernel, rfl, by decide +kernel, by decide +kernel⟩
abbrev s__law_cell : Stmt := topS 33
theorem sc__law_cell : FnScope N__law_cell ["_law_script", "_law_index"] (defScope s__law_cell) := ⟨rfl, rfl, rfl, by decide +kernel, rfl, by decide +kernel, by decide +kernel⟩
abbrev s__law_generator : Stmt := topS 34
theorem sc__law_generator : FnScope N__law_generator ["_law_script", "_law_index"] (defScope s__law_generator) := ⟨rfl, rfl, rfl, by decide +kernel, rfl, by decide +kernel, by decide +kernel⟩
abbrev s_law : Stmt := topS 46
theorem sc_law : FnScope N_law ["_law_script"] (defScope s_law) := ⟨rfl, rfl, rfl, by decide +kernel, rfl, by decide +kernel, by decide +kernel⟩
/-- the built-in names stay as they are -/
structure Zs (mg : MG) : Prop where
  z_all : mg "all" = none
  z_bool : mg "bool" = none
  z_enumerate : mg "enumerate" = none
  z_int : mg "int" = none
  z_isinstance : mg "isinstance" = none
  z_len : mg "len" = none
  z_list : mg "list" = none
  z_max : mg "max" = none
  z_range : mg "range" = none
  z_repr : mg "repr" = none
  z_sum : mg "sum" = none
  z_tuple : mg "tuple" = none
  z_zip : mg "zip" = none
section
variable {P : Program} {w : World} {K : PySem.W.Frag} {mg : MG} {base : Heap}
theorem ok_is_tuple_of (T_is_tuple_of : TopF K mg "is_tuple_of" s_is_tuple_of ["value", "size"]) (Z : Zs mg) : FnG P w K mg base (0 + 1) T_is_tuple_of.f T_is_tuple_of.d ["value", "size"] (SpP K mg false c_is_tuple_of) := by
  show FnG P w K mg base (0 + 1) T_is_tuple_of.f T_is_tuple_of.d ["value", "size"] (SpP K mg false (defD N_is_tuple_of 2 false den_is_tuple_of))
  exact fn_pure (k := 0) (own := false) (O' := []) T_is_tuple_of.F sc_is_tuple_of fun cdv A outer s H E ga hr => by
    unfold den_is_tuple_of
    exact (dss_one (ds_ret (de_and (de_bltn call_isi s_isi Z.z_isinstance rfl (da_cons (de_var 0) (da_cons (de_ty Z.z_tuple rfl) da_nil))) (de_one (de_cmp (op_eq.or (op_eqD (hu60 hr))) s_eq (de_bltn c_len s_len Z.z_len rfl (da_cons (de_var 0) da_nil)) (de_var 1))))))
theorem ok_is_whole (T_is_whole : TopF K mg "is_whole" s_is_whole ["value"]) (Z : Zs mg) : FnG P w K mg base (0 + 1) T_is_whole.f T_is_whole.d ["value"] (SpP K mg false c_is_whole) := by
  show FnG P w K mg base (0 + 1) T_is_whole.f T_is_whole.d ["value"] (SpP K mg false (defD N_is_whole 1 false den_is_whole))
  exact fn_pure (k := 0) (own := false) (O' := []) T_is_whole.F sc_is_whole fun cdv A outer s H E ga hr => by
    unfold den_is_whole
    exact (dss_one (ds_ret (de_and (de_bltn call_isi s_isi Z.z_isinstance rfl (da_cons (de_var 0) (da_cons (de_ty Z.z_int rfl) da_nil))) (de_one (de_not (de_bltn call_isi s_isi Z.z_isinstance rfl (da_cons (de_var 0) (da_cons (de_ty Z.z_bool rfl) da_nil))))))))
theorem ok_is_count (T_is_whole : TopF K mg "is_whole" s_is_whole ["value"]) (T_is_count : TopF K mg "is_count" s_is_count ["value"]) (Z : Zs mg) : FnG P w K mg base (1 + 1) T_is_count.f T_is_count.d ["value"] (SpP K mg false c_is_count) := by
  have G_is_whole := ok_is_whole (P := P) (w := w) (base := base) T_is_whole Z
  show FnG P w K mg base (1 + 1) T_is_count.f T_is_count.d ["value"] (SpP K mg false (defD N_is_count 1 false den_is_count))
  exact fn_pure (k := 1) (own := false) (O' := []) T_is_count.F sc_is_count fun cdv A outer s H E ga hr => by
    unfold den_is_count
    exact (dss_one (ds_ret (de_and (de_call (G_is_whole.mono (by decide)) ga hr T_is_whole.m T_is_whole.F.kp T_is_whole.b (takes_of rfl rfl rfl rfl) (da_cons (de_var 0) da_nil)) (de_one (de_cmp op_ge s_ge (de_var 0) de_int)))))
theorem ok_is_link (T_is_tuple_of : TopF K mg "is_tuple_of" s_is_tuple_of ["value", "size"]) (T_is_whole : TopF K mg "is_whole" s_is_whole ["value"]) (T_is_count : TopF K mg "is_count" s_is_count ["value"]) (T_is_link : TopF K mg "is_link" s_is_link ["value"]) (Z : Zs mg) : FnG P w K mg base (2 + 1) T_is_link.f T_is_link.d ["value"] (SpP K mg false c_is_link) := by
  have G_is_tuple_of := ok_is_tuple_of (P := P) (w := w) (base := base) T_is_tuple_of Z
  have G_is_count := ok_is_count (P := P) (w := w) (base := base) T_is_whole T_is_count Z
  show FnG P w K mg base (2 + 1) T_is_link.f T_is_link.d ["value"] (SpP K mg false (defD N_is_link 1 false den_is_link))
  exact fn_pure (k := 2) (own := false) (O' := []) T_is_link.F sc_is_link fun cdv A outer s H E ga hr => by
    unfold den_is_link
    exact (dss_one (ds_ret (de_and (de_call (G_is_tuple_of.mono (by decide)) ga hr T_is_tuple_of.m T_is_tuple_of.F.kp T_is_tuple_of.b (takes_of rfl rfl rfl rfl) (da_cons (de_var 0) (da_cons de_int da_nil))) (de_one (de_bltn (cr_all rfl) s_all Z.z_all rfl (da_cons (DO.de (do_lc rfl sc_is_link.nd (di_seq (de_var 0)) (sl := [("number", 1)]) (by show BlkOk N_is_link (defScope s_is_link) _ _; exact ⟨rfl, by decide +kernel, by decide +kernel, by decide +kernel, by decide +kernel⟩) (fun _ _ _ _ _ => (dg_name 1 sc_is_link.nd)) (fun _ _ _ _ _ => dts_nil) (fun _ _ _ _ _ => (de_and (de_call (G_is_count.mono (by decide)) ga hr T_is_count.m T_is_count.F.kp T_is_count.b takes0 (da_cons (de_var 1) da_nil)) (de_one (de_cmp op_gt s_gt (de_var 1) de_int)))) (by decide) (by decide))) da_nil))))))
theorem ok_need_link (T_is_tuple_of : TopF K mg "is_tuple_of" s_is_tuple_of ["value", "size"]) (T_is_whole : TopF K mg "is_whole" s_is_whole ["value"]) (T_is_count : TopF K mg "is_count" s_is_count ["value"]) (T_is_link : TopF K mg "is_link" s_is_link ["value"]) (T_need_link : TopF K mg "need_link" s_need_link ["link"]) (Z : Zs mg) : FnG P w K mg base (3 + 1) T_need_link.f T_need_link.d ["link"] (SpP K mg false c_need_link) := by
  have G_is_link := ok_is_link (P := P) (w := w) (base := base) T_is_tuple_of T_is_whole T_is_count T_is_link Z
  show FnG P w K mg base (3 + 1) T_need_link.f T_need_link.d ["link"] (SpP K mg false (defD N_need_link 1 false den_need_link))
  exact fn_pure (k := 3) (own := false) (O' := []) T_need_link.F sc_need_link fun cdv A outer s H E ga hr => by
    unfold den_need_link
    exact (dss_one (ds_if (dt_not (dt_tru (de_call (G_is_link.mono (by decide)) ga hr T_is_link.m T_is_link.F.kp T_is_link.b (takes_of rfl rfl rfl rfl) (da_cons (de_var 0) da_nil)))) (dss_one ds_never) dss_nil))
theorem ok_are_counts (T_is_tuple_of : TopF K mg "is_tuple_of" s_is_tuple_of ["value", "size"]) (T_is_whole : TopF K mg "is_whole" s_is_whole ["value"]) (T_is_count : TopF K mg "is_count" s_is_count ["value"]) (T_are_counts : TopF K mg "are_counts" s_are_counts ["value", "size", "most"]) (Z : Zs mg) : FnG P w K mg base (2 + 1) T_are_counts.f T_are_counts.d ["value", "size", "most"] (SpP K mg false c_are_counts) := by
  have G_is_tuple_of := ok_is_tuple_of (P := P) (w := w) (base := base) T_is_tuple_of Z
  have G_is_count := ok_is_count (P := P) (w := w) (base := base) T_is_whole T_is_count Z
  show FnG P w K mg base (2 + 1) T_are_counts.f T_are_counts.d ["value", "size", "most"] (SpP K mg false (defD N_are_counts 3 false den_are_counts))
  exact fn_pure (k := 2) (own := false) (O' := []) T_are_counts.F sc_are_counts fun cdv A outer s H E ga hr => by
    unfold den_are_counts
    exact (dss_one (ds_ret (de_and (de_call (G_is_tuple_of.mono (by decide)) ga hr T_is_tuple_of.m T_is_tuple_of.F.kp T_is_tuple_of.b (takes_of rfl rfl rfl rfl) (da_cons (de_var 0) (da_cons (de_var 1) da_nil))) (de_and (de_bltn (cr_all rfl) s_all Z.z_all rfl (da_cons (DO.de (do_lc rfl sc_are_counts.nd (di_seq (de_var 0)) (sl := [("count", 3)]) (by show BlkOk N_are_counts (defScope s_are_counts) _ _; exact ⟨rfl, by decide +kernel, by decide +kernel, by decide +kernel, by decide +kernel⟩) (fun _ _ _ _ _ => (dg_name 3 sc_are_counts.nd)) (fun _ _ _ _ _ => dts_nil) (fun _ _ _ _ _ => (de_call (G_is_count.mono (by decide)) ga hr T_is_count.m T_is_count.F.kp T_is_count.b takes0 (da_cons (de_var 3) da_nil))) (by decide) (by decide))) da_nil)) (de_one (de_cmp op_le s_le (de_bltn (c_sum rfl) s_sum Z.z_sum rfl (da_cons (de_var 0) da_nil)) (de_var 2)))))))
theorem ok_is_bit (T_is_whole : TopF K mg "is_whole" s_is_whole ["value"]) (T_is_count : TopF K mg "is_count" s_is_count ["value"]) (T_is_bit : TopF K mg "is_bit" s_is_bit ["value"]) (Z : Zs mg) : FnG P w K mg base (2 + 1) T_is_bit.f T_is_bit.d ["value"] (SpP K mg false c_is_bit) := by
  have G_is_count := ok_is_count (P := P) (w := w) (base := base) T_is_whole T_is_count Z
  show FnG P w K mg base (2 + 1) T_is_bit.f T_is_bit.d ["value"] (SpP K mg false (defD N_is_bit 1 false den_is_bit))
  exact fn_pure (k := 2) (own := false) (O' := []) T_is_bit.F sc_is_bit fun cdv A outer s H E ga hr => by
    unfold den_is_bit
    exact (dss_one (ds_ret (de_and (de_call (G_is_count.mono (by decide)) ga hr T_is_count.m T_is_count.F.kp T_is_count.b (takes_of rfl rfl rfl rfl) (da_cons (de_var 0) da_nil)) (de_one (de_cmp op_lt s_lt (de_var 0) de_int)))))
theorem ok_is_sender (T_is_tuple_of : TopF K mg "is_tuple_of" s_is_tuple_of ["value", "size"]) (T_is_whole : TopF K mg "is_whole" s_is_whole ["value"]) (T_is_count : TopF K mg "is_count" s_is_count ["value"]) (T_is_bit : TopF K mg "is_bit" s_is_bit ["value"]) (T_is_sender : TopF K mg "is_sender" s_is_sender ["link", "value"]) (Z : Zs mg) : FnG P w K mg base (3 + 1) T_is_sender.f T_is_sender.d ["link", "value"] (SpP K mg false c_is_sender) := by
  have G_is_tuple_of := ok_is_tuple_of (P := P) (w := w) (base := base) T_is_tuple_of Z
  have G_is_bit := ok_is_bit (P := P) (w := w) (base := base) T_is_whole T_is_count T_is_bit Z
  have G_is_count := ok_is_count (P := P) (w := w) (base := base) T_is_whole T_is_count Z
  show FnG P w K mg base (3 + 1) T_is_sender.f T_is_sender.d ["link", "value"] (SpP K mg false (defD N_is_sender 2 false den_is_sender))
  exact fn_pure (k := 3) (own := false) (O' := []) T_is_sender.F sc_is_sender fun cdv A outer s H E ga hr => by
    unfold den_is_sender
    exact (dss_one (ds_ret (de_and (de_call (G_is_tuple_of.mono (by decide)) ga hr T_is_tuple_of.m T_is_tuple_of.F.kp T_is_tuple_of.b (takes_of rfl rfl rfl rfl) (da_cons (de_var 1) (da_cons de_int da_nil))) (de_and (de_call (G_is_bit.mono (by decide)) ga hr T_is_bit.m T_is_bit.F.kp T_is_bit.b (takes_of rfl rfl rfl rfl) (da_cons (de_ix ix_seq s_ix (de_var 1) de_int) da_nil)) (de_and (de_call (G_is_count.mono (by decide)) ga hr T_is_count.m T_is_count.F.kp T_is_count.b (takes_of rfl rfl rfl rfl) (da_cons (de_ix ix_seq s_ix (de_var 1) de_int) da_nil)) (de_one (de_cmp op_lt s_lt (de_ix ix_seq s_ix (de_var 1) de_int) (de_ix ix_seq s_ix (de_var 0) de_int))))))))
theorem ok_is_lot (T_is_tuple_of : TopF K mg "is_tuple_of" s_is_tuple_of ["value", "size"]) (T_is_whole : TopF K mg "is_whole" s_is_whole ["value"]) (T_is_count : TopF K mg "is_count" s_is_count ["value"]) (T_is_lot : TopF K mg "is_lot" s_is_lot ["link", "unlike", "value"]) (Z : Zs mg) : FnG P w K mg base (2 + 1) T_is_lot.f T_is_lot.d ["link", "unlike", "value"] (SpP K mg false c_is_lot) := by
  have G_is_tuple_of := ok_is_tuple_of (P := P) (w := w) (base := base) T_is_tuple_of Z
  have G_is_count := ok_is_count (P := P) (w := w) (base := base) T_is_whole T_is_count Z
  show FnG P w K mg base (2 + 1) T_is_lot.f T_is_lot.d ["link", "unlike", "value"] (SpP K mg false (defD N_is_lot 3 false den_is_lot))
  exact fn_pure (k := 2) (own := false) (O' := []) T_is_lot.F sc_is_lot fun cdv A outer s H E ga hr => by
    unfold den_is_lot
    exact (dss_cons (ds_if (dt_cmp op_isN s_isN (de_var 2) de_non) (dss_one (ds_ret de_bl)) dss_nil) (dss_cons (ds_if (DW.dt (dw_or (dt_not (dt_tru (de_call (G_is_tuple_of.mono (by decide)) ga hr T_is_tuple_of.m T_is_tuple_of.F.kp T_is_tuple_of.b (takes_of rfl rfl rfl rfl) (da_cons (de_var 2) (da_cons de_int da_nil))))) (dw_or1 (dt_not (dt_tru (de_call (G_is_count.mono (by decide)) ga hr T_is_count.m T_is_count.F.kp T_is_count.b (takes_of rfl rfl rfl rfl) (da_cons (de_ix ix_seq s_ix (de_var 2) de_int) da_nil))))))) (dss_one (ds_ret de_bl)) dss_nil) (dss_one (ds_ret (de_and (de_or (de_cmp (op_eq.or (op_eqD (hu60 hr))) s_eq (de_ix ix_seq s_ix (de_var 2) de_int) de_str) (de_one (de_and (de_cmp (op_eq.or (op_eqD (hu60 hr))) s_eq (de_ix ix_seq s_ix (de_var 2) de_int) de_str) (de_one (de_var 1))))) (de_one (de_chain op_lt s_lt op_lt s_lt de_int (de_ix ix_seq s_ix (de_var 2) de_int) (de_ix ix_seq s_ix (de_var 0) de_int))))))))
theorem ok_is_receiver (T_is_tuple_of : TopF K mg "is_tuple_of" s_is_tuple_of ["value", "size"]) (T_is_whole : TopF K mg "is_whole" s_is_whole ["value"]) (T_is_count : TopF K mg "is_count" s_is_count ["value"]) (T_is_bit : TopF K mg "is_bit" s_is_bit ["value"]) (T_is_lot : TopF K mg "is_lot" s_is_lot ["link", "unlike", "value"]) (T_is_receiver : TopF K mg "is_receiver" s_is_receiver ["link", "sent", "value"]) (Z : Zs mg) : FnG P w K mg base (3 + 1) T_is_receiver.f T_is_receiver.d ["link", "sent", "value"] (SpP K mg false c_is_receiver) := by
  have G_is_tuple_of := ok_is_tuple_of (P := P) (w := w) (base := base) T_is_tuple_of Z
  have G_is_bit := ok_is_bit (P := P) (w := w) (base := base) T_is_whole T_is_count T_is_bit Z
  have G_is_lot := ok_is_lot (P := P) (w := w) (base := base) T_is_tuple_of T_is_whole T_is_count T_is_lot Z
  show FnG P w K mg base (3 + 1) T_is_receiver.f T_is_receiver.d ["link", "sent", "value"] (SpP K mg false (defD N_is_receiver 3 false den_is_receiver))
  exact fn_pure (k := 3) (own := false) (O' := []) T_is_receiver.F sc_is_receiver fun cdv A outer s H E ga hr => by
    unfold den_is_receiver
    exact (dss_cons (ds_if (dt_not (dt_tru (de_call (G_is_tuple_of.mono (by decide)) ga hr T_is_tuple_of.m T_is_tuple_of.F.kp T_is_tuple_of.b (takes_of rfl rfl rfl rfl) (da_cons (de_var 2) (da_cons de_int da_nil))))) (dss_one (ds_ret de_bl)) dss_nil) (dss_cons (ds_asg (de_var 2) (dg_tup rfl (dgs_cons (dg_name 3 sc_is_receiver.nd) (dgs_cons (dg_name 4 sc_is_receiver.nd) (dgs_cons (dg_name 5 sc_is_receiver.nd) dgs_nil))))) (dss_one (ds_ret (de_and (de_call (G_is_bit.mono (by decide)) ga hr T_is_bit.m T_is_bit.F.kp T_is_bit.b (takes_of rfl rfl rfl rfl) (da_cons (de_var 3) da_nil)) (de_and (de_call (G_is_lot.mono (by decide)) ga hr T_is_lot.m T_is_lot.F.kp T_is_lot.b (takes_of rfl rfl rfl rfl) (da_cons (de_var 0) (da_cons (de_cmp (op_ne.or (op_neD (hu60 hr))) s_ne (de_var 3) (de_var 1)) (da_cons (de_var 4) da_nil)))) (de_one (de_bltn call_isi s_isi Z.z_isinstance rfl (da_cons (de_var 5) (da_cons (de_ty Z.z_bool rfl) da_nil))))))))))
theorem ok_fits_link (T_is_tuple_of : TopF K mg "is_tuple_of" s_is_tuple_of ["value", "size"]) (T_is_whole : TopF K mg "is_whole" s_is_whole ["value"]) (T_is_count : TopF K mg "is_count" s_is_count ["value"]) (T_is_bit : TopF K mg "is_bit" s_is_bit ["value"]) (T_is_sender : TopF K mg "is_sender" s_is_sender ["link", "value"]) (T_is_lot : TopF K mg "is_lot" s_is_lot ["link", "unlike", "value"]) (T_is_receiver : TopF K mg "is_receiver" s_is_receiver ["link", "sent", "value"]) (T_are_counts : TopF K mg "are_counts" s_are_counts ["value", "size", "most"]) (T_fits_link : TopF K mg "fits_link" s_fits_link ["link", "value"]) (Z : Zs mg) : FnG P w K mg base (4 + 1) T_fits_link.f T_fits_link.d ["link", "value"] (SpP K mg false c_fits_link) := by
  have G_is_tuple_of := ok_is_tuple_of (P := P) (w := w) (base := base) T_is_tuple_of Z
  have G_is_sender := ok_is_sender (P := P) (w := w) (base := base) T_is_tuple_of T_is_whole T_is_count T_is_bit T_is_sender Z
  have G_is_receiver := ok_is_receiver (P := P) (w := w) (base := base) T_is_tuple_of T_is_whole T_is_count T_is_bit T_is_lot T_is_receiver Z
  have G_are_counts := ok_are_counts (P := P) (w := w) (base := base) T_is_tuple_of T_is_whole T_is_count T_are_counts Z
  show FnG P w K mg base (4 + 1) T_fits_link.f T_fits_link.d ["link", "value"] (SpP K mg false (defD N_fits_link 2 false den_fits_link))
  exact fn_pure (k := 4) (own := false) (O' := []) T_fits_link.F sc_fits_link fun cdv A outer s H E ga hr => by
    unfold den_fits_link
    exact (dss_cons (ds_if (dt_not (dt_tru (de_call (G_is_tuple_of.mono (by decide)) ga hr T_is_tuple_of.m T_is_tuple_of.F.kp T_is_tuple_of.b (takes_of rfl rfl rfl rfl) (da_cons (de_var 1) (da_cons de_int da_nil))))) (dss_one (ds_ret de_bl)) dss_nil) (dss_cons (ds_asg (de_var 1) (dg_tup rfl (dgs_cons (dg_name 2 sc_fits_link.nd) (dgs_cons (dg_name 3 sc_fits_link.nd) (dgs_cons (dg_name 4 sc_fits_link.nd) (dgs_cons (dg_name 5 sc_fits_link.nd) dgs_nil)))))) (dss_cons (ds_if (DW.dt (dw_or (dt_not (dt_tru (de_call (G_is_sender.mono (by decide)) ga hr T_is_sender.m T_is_sender.F.kp T_is_sender.b (takes_of rfl rfl rfl rfl) (da_cons (de_var 0) (da_cons (de_var 2) da_nil))))) (dw_or1 (dt_not (dt_tru (de_call (G_is_receiver.mono (by decide)) ga hr T_is_receiver.m T_is_receiver.F.kp T_is_receiver.b (takes_of rfl rfl rfl rfl) (da_cons (de_var 0) (da_cons (de_ix ix_seq s_ix (de_var 2) de_int) (da_cons (de_var 3) da_nil))))))))) (dss_one (ds_ret de_bl)) dss_nil) (dss_one (ds_ret (de_and (de_call (G_are_counts.mono (by decide)) ga hr T_are_counts.m T_are_counts.F.kp T_are_counts.b (takes_of rfl rfl rfl rfl) (da_cons (de_var 4) (da_cons de_int (da_cons (de_ix ix_seq s_ix (de_var 0) de_int) da_nil)))) (de_one (de_call (G_are_counts.mono (by decide)) ga hr T_are_counts.m T_are_counts.F.kp T_are_counts.b (takes_of rfl rfl rfl rfl) (da_cons (de_var 5) (da_cons de_int (da_cons (de_ix ix_seq s_ix (de_var 0) de_int) da_nil)))))))))))
theorem ok_need_contents (T_is_tuple_of : TopF K mg "is_tuple_of" s_is_tuple_of ["value", "size"]) (T_is_whole : TopF K mg "is_whole" s_is_whole ["value"]) (T_is_count : TopF K mg "is_count" s_is_count ["value"]) (T_is_link : TopF K mg "is_link" s_is_link ["value"]) (T_need_link : TopF K mg "need_link" s_need_link ["link"]) (T_is_bit : TopF K mg "is_bit" s_is_bit ["value"]) (T_is_sender : TopF K mg "is_sender" s_is_sender ["link", "value"]) (T_is_lot : TopF K mg "is_lot" s_is_lot ["link", "unlike", "value"]) (T_is_receiver : TopF K mg "is_receiver" s_is_receiver ["link", "sent", "value"]) (T_are_counts : TopF K mg "are_counts" s_are_counts ["value", "size", "most"]) (T_fits_link : TopF K mg "fits_link" s_fits_link ["link", "value"]) (T_need_contents : TopF K mg "need_contents" s_need_contents ["link", "contents"]) (Z : Zs mg) : FnG P w K mg base (5 + 1) T_need_contents.f T_need_contents.d ["link", "contents"] (SpP K mg false c_need_contents) := by
  have G_need_link := ok_need_link (P := P) (w := w) (base := base) T_is_tuple_of T_is_whole T_is_count T_is_link T_need_link Z
  have G_fits_link := ok_fits_link (P := P) (w := w) (base := base) T_is_tuple_of T_is_whole T_is_count T_is_bit T_is_sender T_is_lot T_is_receiver T_are_counts T_fits_link Z
  show FnG P w K mg base (5 + 1) T_need_contents.f T_need_contents.d ["link", "contents"] (SpP K mg false (defD N_need_contents 2 false den_need_contents))
  exact fn_pure (k := 5) (own := false) (O' := []) T_need_contents.F sc_need_contents fun cdv A outer s H E ga hr => by
    unfold den_need_contents
    exact (dss_cons (ds_expr (de_call (G_need_link.mono (by decide)) ga hr T_need_link.m T_need_link.F.kp T_need_link.b (takes_of rfl rfl rfl rfl) (da_cons (de_var 0) da_nil))) (dss_one (ds_if (dt_not (dt_tru (de_call (G_fits_link.mono (by decide)) ga hr T_fits_link.m T_fits_link.F.kp T_fits_link.b (takes_of rfl rfl rfl rfl) (da_cons (de_var 0) (da_cons (de_var 1) da_nil))))) (dss_one ds_never) dss_nil)))
theorem ok_seen_of (T_seen_of : TopF K mg "seen_of" s_seen_of ["contents"]) (Z : Zs mg) : FnG P w K mg base (0 + 1) T_seen_of.f T_seen_of.d ["contents"] (SpP K mg false c_seen_of) := by
  show FnG P w K mg base (0 + 1) T_seen_of.f T_seen_of.d ["contents"] (SpP K mg false (defD N_seen_of 1 false den_seen_of))
  exact fn_pure (k := 0) (own := false) (O' := []) T_seen_of.F sc_seen_of fun cdv A outer s H E ga hr => by
    unfold den_seen_of
    exact (dss_cons (ds_asg (de_var 0) (dg_tup rfl (dgs_cons (dg_name 1 sc_seen_of.nd) (dgs_cons (dg_tup rfl (dgs_cons (dg_name 2 sc_seen_of.nd) (dgs_cons (dg_name 3 sc_seen_of.nd) (dgs_cons (dg_name 4 sc_seen_of.nd) dgs_nil)))) (dgs_cons (dg_tup rfl (dgs_cons (dg_name 5 sc_seen_of.nd) (dgs_cons (dg_name 6 sc_seen_of.nd) (dgs_cons (dg_name 7 sc_seen_of.nd) dgs_nil)))) (dgs_cons (dg_name 8 sc_seen_of.nd) dgs_nil)))))) (dss_cons (ds_set 9 sc_seen_of.nd (de_if (dt_cmp (op_eq.or (op_eqD (hu60 hr))) s_eq (de_ix ix_seq s_ix (de_var 1) de_int) de_int) (de_tup (da_cons (de_op op_addD s_add (de_var 6) (de_var 5)) (da_cons (de_var 7) da_nil))) (de_tup (da_cons (de_var 6) (da_cons (de_op op_addD s_add (de_var 7) (de_var 5)) da_nil))))) (dss_one (ds_ret (de_tup (da_cons (de_var 1) (da_cons (de_tup (da_cons (de_var 2) (da_cons (de_if (dt_cmp op_isN s_isN (de_var 3) de_non) de_int (de_ix ix_seq s_ix (de_var 3) de_int)) da_nil))) (da_cons (de_var 9) (da_cons (de_var 8) da_nil)))))))))
theorem ok_view_of (T_is_tuple_of : TopF K mg "is_tuple_of" s_is_tuple_of ["value", "size"]) (T_is_whole : TopF K mg "is_whole" s_is_whole ["value"]) (T_is_count : TopF K mg "is_count" s_is_count ["value"]) (T_is_link : TopF K mg "is_link" s_is_link ["value"]) (T_need_link : TopF K mg "need_link" s_need_link ["link"]) (T_is_bit : TopF K mg "is_bit" s_is_bit ["value"]) (T_is_sender : TopF K mg "is_sender" s_is_sender ["link", "value"]) (T_is_lot : TopF K mg "is_lot" s_is_lot ["link", "unlike", "value"]) (T_is_receiver : TopF K mg "is_receiver" s_is_receiver ["link", "sent", "value"]) (T_are_counts : TopF K mg "are_counts" s_are_counts ["value", "size", "most"]) (T_fits_link : TopF K mg "fits_link" s_fits_link ["link", "value"]) (T_need_contents : TopF K mg "need_contents" s_need_contents ["link", "contents"]) (T_seen_of : TopF K mg "seen_of" s_seen_of ["contents"]) (T_view_of : TopF K mg "view_of" s_view_of ["link", "contents"]) (Z : Zs mg) : FnG P w K mg base (6 + 1) T_view_of.f T_view_of.d ["link", "contents"] (SpP K mg false c_view_of) := by
  have G_need_contents := ok_need_contents (P := P) (w := w) (base := base) T_is_tuple_of T_is_whole T_is_count T_is_link T_need_link T_is_bit T_is_sender T_is_lot T_is_receiver T_are_counts T_fits_link T_need_contents Z
  have G_seen_of := ok_seen_of (P := P) (w := w) (base := base) T_seen_of Z
  show FnG P w K mg base (6 + 1) T_view_of.f T_view_of.d ["link", "contents"] (SpP K mg false (defD N_view_of 2 false den_view_of))
  exact fn_pure (k := 6) (own := false) (O' := []) T_view_of.F sc_view_of fun cdv A outer s H E ga hr => by
    unfold den_view_of
    exact (dss_cons (ds_expr (de_call (G_need_contents.mono (by decide)) ga hr T_need_contents.m T_need_contents.F.kp T_need_contents.b (takes_of rfl rfl rfl rfl) (da_cons (de_var 0) (da_cons (de_var 1) da_nil)))) (dss_one (ds_ret (de_call (G_seen_of.mono (by decide)) ga hr T_seen_of.m T_seen_of.F.kp T_seen_of.b (takes_of rfl rfl rfl rfl) (da_cons (de_var 1) da_nil)))))
theorem ok_is_seen_receiver (T_is_tuple_of : TopF K mg "is_tuple_of" s_is_tuple_of ["value", "size"]) (T_is_whole : TopF K mg "is_whole" s_is_whole ["value"]) (T_is_count : TopF K mg "is_count" s_is_count ["value"]) (T_is_bit : TopF K mg "is_bit" s_is_bit ["value"]) (T_is_seen_receiver : TopF K mg "is_seen_receiver" s_is_seen_receiver ["link", "value"]) (Z : Zs mg) : FnG P w K mg base (3 + 1) T_is_seen_receiver.f T_is_seen_receiver.d ["link", "value"] (SpP K mg false c_is_seen_receiver) := by
  have G_is_tuple_of := ok_is_tuple_of (P := P) (w := w) (base := base) T_is_tuple_of Z
  have G_is_bit := ok_is_bit (P := P) (w := w) (base := base) T_is_whole T_is_count T_is_bit Z
  have G_is_count := ok_is_count (P := P) (w := w) (base := base) T_is_whole T_is_count Z
  show FnG P w K mg base (3 + 1) T_is_seen_receiver.f T_is_seen_receiver.d ["link", "value"] (SpP K mg false (defD N_is_seen_receiver 2 false den_is_seen_receiver))
  exact fn_pure (k := 3) (own := false) (O' := []) T_is_seen_receiver.F sc_is_seen_receiver fun cdv A outer s H E ga hr => by
    unfold den_is_seen_receiver
    exact (dss_one (ds_ret (de_and (de_call (G_is_tuple_of.mono (by decide)) ga hr T_is_tuple_of.m T_is_tuple_of.F.kp T_is_tuple_of.b (takes_of rfl rfl rfl rfl) (da_cons (de_var 1) (da_cons de_int da_nil))) (de_and (de_call (G_is_bit.mono (by decide)) ga hr T_is_bit.m T_is_bit.F.kp T_is_bit.b (takes_of rfl rfl rfl rfl) (da_cons (de_ix ix_seq s_ix (de_var 1) de_int) da_nil)) (de_and (de_call (G_is_count.mono (by decide)) ga hr T_is_count.m T_is_count.F.kp T_is_count.b (takes_of rfl rfl rfl rfl) (da_cons (de_ix ix_seq s_ix (de_var 1) de_int) da_nil)) (de_one (de_cmp op_lt s_lt (de_ix ix_seq s_ix (de_var 1) de_int) (de_ix ix_seq s_ix (de_var 0) de_int))))))))
theorem ok_is_view_of (T_is_tuple_of : TopF K mg "is_tuple_of" s_is_tuple_of ["value", "size"]) (T_is_whole : TopF K mg "is_whole" s_is_whole ["value"]) (T_is_count : TopF K mg "is_count" s_is_count ["value"]) (T_is_bit : TopF K mg "is_bit" s_is_bit ["value"]) (T_is_sender : TopF K mg "is_sender" s_is_sender ["link", "value"]) (T_is_seen_receiver : TopF K mg "is_seen_receiver" s_is_seen_receiver ["link", "value"]) (T_are_counts : TopF K mg "are_counts" s_are_counts ["value", "size", "most"]) (T_is_view_of : TopF K mg "is_view_of" s_is_view_of ["link", "value"]) (Z : Zs mg) : FnG P w K mg base (4 + 1) T_is_view_of.f T_is_view_of.d ["link", "value"] (SpP K mg false c_is_view_of) := by
  have G_is_tuple_of := ok_is_tuple_of (P := P) (w := w) (base := base) T_is_tuple_of Z
  have G_is_sender := ok_is_sender (P := P) (w := w) (base := base) T_is_tuple_of T_is_whole T_is_count T_is_bit T_is_sender Z
  have G_is_seen_receiver := ok_is_seen_receiver (P := P) (w := w) (base := base) T_is_tuple_of T_is_whole T_is_count T_is_bit T_is_seen_receiver Z
  have G_are_counts := ok_are_counts (P := P) (w := w) (base := base) T_is_tuple_of T_is_whole T_is_count T_are_counts Z
  show FnG P w K mg base (4 + 1) T_is_view_of.f T_is_view_of.d ["link", "value"] (SpP K mg false (defD N_is_view_of 2 false den_is_view_of))
  exact fn_pure (k := 4) (own := false) (O' := []) T_is_view_of.F sc_is_view_of fun cdv A outer s H E ga hr => by
    unfold den_is_view_of
    exact (dss_cons (ds_if (dt_not (dt_tru (de_call (G_is_tuple_of.mono (by decide)) ga hr T_is_tuple_of.m T_is_tuple_of.F.kp T_is_tuple_of.b (takes_of rfl rfl rfl rfl) (da_cons (de_var 1) (da_cons de_int da_nil))))) (dss_one (ds_ret de_bl)) dss_nil) (dss_cons (ds_asg (de_var 1) (dg_tup rfl (dgs_cons (dg_name 2 sc_is_view_of.nd) (dgs_cons (dg_name 3 sc_is_view_of.nd) (dgs_cons (dg_name 4 sc_is_view_of.nd) (dgs_cons (dg_name 5 sc_is_view_of.nd) dgs_nil)))))) (dss_cons (ds_if (DW.dt (dw_and (dt_cmp op_notN s_notN (de_var 2) de_non) (dw_and1 (dt_not (dt_tru (de_call (G_is_sender.mono (by decide)) ga hr T_is_sender.m T_is_sender.F.kp T_is_sender.b (takes_of rfl rfl rfl rfl) (da_cons (de_var 0) (da_cons (de_var 2) da_nil)))))))) (dss_one (ds_ret de_bl)) dss_nil) (dss_cons (ds_if (DW.dt (dw_and (dt_cmp op_notN s_notN (de_var 3) de_non) (dw_and1 (dt_not (dt_tru (de_call (G_is_seen_receiver.mono (by decide)) ga hr T_is_seen_receiver.m T_is_seen_receiver.F.kp T_is_seen_receiver.b (takes_of rfl rfl rfl rfl) (da_cons (de_var 0) (da_cons (de_var 3) da_nil)))))))) (dss_one (ds_ret de_bl)) dss_nil) (dss_cons (ds_if (DW.dt (dw_and (dt_cmp op_notN s_notN (de_var 4) de_non) (dw_and1 (dt_not (dt_tru (de_call (G_are_counts.mono (by decide)) ga hr T_are_counts.m T_are_counts.F.kp T_are_counts.b (takes_of rfl rfl rfl rfl) (da_cons (de_var 4) (da_cons de_int (da_cons (de_ix ix_seq s_ix (de_var 0) de_int) da_nil))))))))) (dss_one (ds_ret de_bl)) dss_nil) (dss_one (ds_ret (de_or (de_cmp op_isN s_isN (de_var 5) de_non) (de_one (de_call (G_are_counts.mono (by decide)) ga hr T_are_counts.m T_are_counts.F.kp T_are_counts.b (takes_of rfl rfl rfl rfl) (da_cons (de_var 5) (da_cons de_int (da_cons (de_ix ix_seq s_ix (de_var 0) de_int) da_nil)))))))))))))
theorem ok_need_view (T_is_tuple_of : TopF K mg "is_tuple_of" s_is_tuple_of ["value", "size"]) (T_is_whole : TopF K mg "is_whole" s_is_whole ["value"]) (T_is_count : TopF K mg "is_count" s_is_count ["value"]) (T_is_bit : TopF K mg "is_bit" s_is_bit ["value"]) (T_is_sender : TopF K mg "is_sender" s_is_sender ["link", "value"]) (T_is_seen_receiver : TopF K mg "is_seen_receiver" s_is_seen_receiver ["link", "value"]) (T_are_counts : TopF K mg "are_counts" s_are_counts ["value", "size", "most"]) (T_is_view_of : TopF K mg "is_view_of" s_is_view_of ["link", "value"]) (T_need_view : TopF K mg "need_view" s_need_view ["link", "view"]) (Z : Zs mg) : FnG P w K mg base (5 + 1) T_need_view.f T_need_view.d ["link", "view"] (SpP K mg false c_need_view) := by
  have G_is_view_of := ok_is_view_of (P := P) (w := w) (base := base) T_is_tuple_of T_is_whole T_is_count T_is_bit T_is_sender T_is_seen_receiver T_are_counts T_is_view_of Z
  show FnG P w K mg base (5 + 1) T_need_view.f T_need_view.d ["link", "view"] (SpP K mg false (defD N_need_view 2 false den_need_view))
  exact fn_pure (k := 5) (own := false) (O' := []) T_need_view.F sc_need_view fun cdv A outer s H E ga hr => by
    unfold den_need_view
    exact (dss_one (ds_if (dt_not (dt_tru (de_call (G_is_view_of.mono (by decide)) ga hr T_is_view_of.m T_is_view_of.F.kp T_is_view_of.b (takes_of rfl rfl rfl rfl) (da_cons (de_var 0) (da_cons (de_var 1) da_nil))))) (dss_one ds_never) dss_nil))
theorem ok_are_places (T_is_whole : TopF K mg "is_whole" s_is_whole ["value"]) (T_is_count : TopF K mg "is_count" s_is_count ["value"]) (T_are_places : TopF K mg "are_places" s_are_places ["value"]) (Z : Zs mg) : FnG P w K mg base (2 + 1) T_are_places.f T_are_places.d ["value"] (SpP K mg false c_are_places) := by
  have G_is_count := ok_is_count (P := P) (w := w) (base := base) T_is_whole T_is_count Z
  show FnG P w K mg base (2 + 1) T_are_places.f T_are_places.d ["value"] (SpP K mg false (defD N_are_places 1 false den_are_places))
  exact fn_pure (k := 2) (own := false) (O' := []) T_are_places.F sc_are_places fun cdv A outer s H E ga hr => by
    unfold den_are_places
    exact (dss_cons (ds_if (DW.dt (dw_or (dt_not (dt_tru (de_bltn call_isi s_isi Z.z_isinstance rfl (da_cons (de_var 0) (da_cons (de_ty Z.z_list rfl) da_nil))))) (dw_or1 (dt_not (dt_tru (de_bltn (cr_all rfl) s_all Z.z_all rfl (da_cons (DO.de (do_lc rfl sc_are_places.nd (di_seq (de_var 0)) (sl := [("place", 1)]) (by show BlkOk N_are_places (defScope s_are_places) _ _; exact ⟨rfl, by decide +kernel, by decide +kernel, by decide +kernel, by decide +kernel⟩) (fun _ _ _ _ _ => (dg_name 1 sc_are_places.nd)) (fun _ _ _ _ _ => dts_nil) (fun _ _ _ _ _ => (de_and (de_call (G_is_count.mono (by decide)) ga hr T_is_count.m T_is_count.F.kp T_is_count.b takes0 (da_cons (de_var 1) da_nil)) (de_one (de_cmp op_lt s_lt (de_var 1) de_int)))) (by decide) (by decide))) da_nil))))))) (dss_one (ds_ret de_bl)) dss_nil) (dss_one (ds_ret (de_bltn (cr_all rfl) s_all Z.z_all rfl (da_cons (DO.de (do_lc rfl sc_are_places.nd (di_zip Z.z_zip (da_cons (de_var 0) (da_cons (de_slice (de_var 0) (dp_some de_int) dp_none) da_nil))) (sl := [("place", 1), ("further", 2)]) (by show BlkOk N_are_places (defScope s_are_places) _ _; exact ⟨rfl, by decide +kernel, by decide +kernel, by decide +kernel, by decide +kernel⟩) (fun _ _ _ _ _ => (dg_tup rfl (dgs_cons (dg_name 1 sc_are_places.nd) (dgs_cons (dg_name 2 sc_are_places.nd) dgs_nil)))) (fun _ _ _ _ _ => dts_nil) (fun _ _ _ _ _ => (de_cmp op_lt s_lt (de_var 1) (de_var 2))) (by decide) (by decide))) da_nil)))))
theorem ok_covered (T_is_tuple_of : TopF K mg "is_tuple_of" s_is_tuple_of ["value", "size"]) (T_is_whole : TopF K mg "is_whole" s_is_whole ["value"]) (T_is_count : TopF K mg "is_count" s_is_count ["value"]) (T_is_link : TopF K mg "is_link" s_is_link ["value"]) (T_need_link : TopF K mg "need_link" s_need_link ["link"]) (T_is_bit : TopF K mg "is_bit" s_is_bit ["value"]) (T_is_sender : TopF K mg "is_sender" s_is_sender ["link", "value"]) (T_is_seen_receiver : TopF K mg "is_seen_receiver" s_is_seen_receiver ["link", "value"]) (T_are_counts : TopF K mg "are_counts" s_are_counts ["value", "size", "most"]) (T_is_view_of : TopF K mg "is_view_of" s_is_view_of ["link", "value"]) (T_need_view : TopF K mg "need_view" s_need_view ["link", "view"]) (T_are_places : TopF K mg "are_places" s_are_places ["value"]) (T_covered : TopF K mg "covered" s_covered ["link", "view", "places"]) (Z : Zs mg) : FnG P w K mg base (6 + 1) T_covered.f T_covered.d ["link", "view", "places"] (SpP K mg false c_covered) := by
  have G_need_link := ok_need_link (P := P) (w := w) (base := base) T_is_tuple_of T_is_whole T_is_count T_is_link T_need_link Z
  have G_need_view := ok_need_view (P := P) (w := w) (base := base) T_is_tuple_of T_is_whole T_is_count T_is_bit T_is_sender T_is_seen_receiver T_are_counts T_is_view_of T_need_view Z
  have G_are_places := ok_are_places (P := P) (w := w) (base := base) T_is_whole T_is_count T_are_places Z
  show FnG P w K mg base (6 + 1) T_covered.f T_covered.d ["link", "view", "places"] (SpP K mg false (defD N_covered 3 false den_covered))
  exact fn_pure (k := 6) (own := false) (O' := []) T_covered.F sc_covered fun cdv A outer s H E ga hr => by
    unfold den_covered
    exact (dss_cons (ds_expr (de_call (G_need_link.mono (by decide)) ga hr T_need_link.m T_need_link.F.kp T_need_link.b (takes_of rfl rfl rfl rfl) (da_cons (de_var 0) da_nil))) (dss_cons (ds_expr (de_call (G_need_view.mono (by decide)) ga hr T_need_view.m T_need_view.F.kp T_need_view.b (takes_of rfl rfl rfl rfl) (da_cons (de_var 0) (da_cons (de_var 1) da_nil)))) (dss_cons (ds_if (dt_not (dt_tru (de_call (G_are_places.mono (by decide)) ga hr T_are_places.m T_are_places.F.kp T_are_places.b (takes_of rfl rfl rfl rfl) (da_cons (de_var 2) da_nil)))) (dss_one ds_never) dss_nil) (dss_one (ds_ret (de_btype c_tup s_tup Z.z_tuple rfl (da_cons (DO.de (do_lc rfl sc_covered.nd (di_enum Z.z_enumerate (da_cons (de_var 1) da_nil)) (sl := [("place", 3), ("seen", 4)]) (by show BlkOk N_covered (defScope s_covered) _ _; exact ⟨rfl, by decide +kernel, by decide +kernel, by decide +kernel, by decide +kernel⟩) (fun _ _ _ _ _ => (dg_tup rfl (dgs_cons (dg_name 3 sc_covered.nd) (dgs_cons (dg_name 4 sc_covered.nd) dgs_nil)))) (fun _ _ _ _ _ => dts_nil) (fun _ _ _ _ _ => (de_if (dt_cmp (op_inAD (hu65 hr)) s_inA (de_var 3) (de_var 2)) de_non (de_var 4))) (by decide) (by decide))) da_nil)))))))
theorem ok_fits_view (T_seen_of : TopF K mg "seen_of" s_seen_of ["contents"]) (T_fits_view : TopF K mg "fits_view" s_fits_view ["contents", "view"]) (Z : Zs mg) : FnG P w K mg base (1 + 1) T_fits_view.f T_fits_view.d ["contents", "view"] (SpP K mg false c_fits_view) := by
  have G_seen_of := ok_seen_of (P := P) (w := w) (base := base) T_seen_of Z
  show FnG P w K mg base (1 + 1) T_fits_view.f T_fits_view.d ["contents", "view"] (SpP K mg false (defD N_fits_view 2 false den_fits_view))
  exact fn_pure (k := 1) (own := false) (O' := []) T_fits_view.F sc_fits_view fun cdv A outer s H E ga hr => by
    unfold den_fits_view
    exact (dss_one (ds_ret (de_bltn (cr_all rfl) s_all Z.z_all rfl (da_cons (DO.de (do_lc rfl sc_fits_view.nd (di_zip Z.z_zip (da_cons (de_var 1) (da_cons (de_call (G_seen_of.mono (by decide)) ga hr T_seen_of.m T_seen_of.F.kp T_seen_of.b (takes_of rfl rfl rfl rfl) (da_cons (de_var 0) da_nil)) da_nil))) (sl := [("seen", 2), ("told", 3)]) (by show BlkOk N_fits_view (defScope s_fits_view) _ _; exact ⟨rfl, by decide +kernel, by decide +kernel, by decide +kernel, by decide +kernel⟩) (fun _ _ _ _ _ => (dg_tup rfl (dgs_cons (dg_name 2 sc_fits_view.nd) (dgs_cons (dg_name 3 sc_fits_view.nd) dgs_nil)))) (fun _ _ _ _ _ => dts_nil) (fun _ _ _ _ _ => (de_or (de_cmp op_isN s_isN (de_var 2) de_non) (de_one (de_cmp (op_eq.or (op_eqD (hu60 hr))) s_eq (de_var 2) (de_var 3))))) (by decide) (by decide))) da_nil))))
theorem ok_looks_so (T_is_tuple_of : TopF K mg "is_tuple_of" s_is_tuple_of ["value", "size"]) (T_is_whole : TopF K mg "is_whole" s_is_whole ["value"]) (T_is_count : TopF K mg "is_count" s_is_count ["value"]) (T_is_link : TopF K mg "is_link" s_is_link ["value"]) (T_need_link : TopF K mg "need_link" s_need_link ["link"]) (T_is_bit : TopF K mg "is_bit" s_is_bit ["value"]) (T_is_sender : TopF K mg "is_sender" s_is_sender ["link", "value"]) (T_is_lot : TopF K mg "is_lot" s_is_lot ["link", "unlike", "value"]) (T_is_receiver : TopF K mg "is_receiver" s_is_receiver ["link", "sent", "value"]) (T_are_counts : TopF K mg "are_counts" s_are_counts ["value", "size", "most"]) (T_fits_link : TopF K mg "fits_link" s_fits_link ["link", "value"]) (T_need_contents : TopF K mg "need_contents" s_need_contents ["link", "contents"]) (T_is_seen_receiver : TopF K mg "is_seen_receiver" s_is_seen_receiver ["link", "value"]) (T_is_view_of : TopF K mg "is_view_of" s_is_view_of ["link", "value"]) (T_need_view : TopF K mg "need_view" s_need_view ["link", "view"]) (T_seen_of : TopF K mg "seen_of" s_seen_of ["contents"]) (T_fits_view : TopF K mg "fits_view" s_fits_view ["contents", "view"]) (T_looks_so : TopF K mg "looks_so" s_looks_so ["link", "contents", "view"]) (Z : Zs mg) : FnG P w K mg base (6 + 1) T_looks_so.f T_looks_so.d ["link", "contents", "view"] (SpP K mg false c_looks_so) := by
  have G_need_contents := ok_need_contents (P := P) (w := w) (base := base) T_is_tuple_of T_is_whole T_is_count T_is_link T_need_link T_is_bit T_is_sender T_is_lot T_is_receiver T_are_counts T_fits_link T_need_contents Z
  have G_need_view := ok_need_view (P := P) (w := w) (base := base) T_is_tuple_of T_is_whole T_is_count T_is_bit T_is_sender T_is_seen_receiver T_are_counts T_is_view_of T_need_view Z
  have G_fits_view := ok_fits_view (P := P) (w := w) (base := base) T_seen_of T_fits_view Z
  show FnG P w K mg base (6 + 1) T_looks_so.f T_looks_so.d ["link", "contents", "view"] (SpP K mg false (defD N_looks_so 3 false den_looks_so))
  exact fn_pure (k := 6) (own := false) (O' := []) T_looks_so.F sc_looks_so fun cdv A outer s H E ga hr => by
    unfold den_looks_so
    exact (dss_cons (ds_expr (de_call (G_need_contents.mono (by decide)) ga hr T_need_contents.m T_need_contents.F.kp T_need_contents.b (takes_of rfl rfl rfl rfl) (da_cons (de_var 0) (da_cons (de_var 1) da_nil)))) (dss_cons (ds_expr (de_call (G_need_view.mono (by decide)) ga hr T_need_view.m T_need_view.F.kp T_need_view.b (takes_of rfl rfl rfl rfl) (da_cons (de_var 0) (da_cons (de_var 2) da_nil)))) (dss_one (ds_ret (de_call (G_fits_view.mono (by decide)) ga hr T_fits_view.m T_fits_view.F.kp T_fits_view.b (takes_of rfl rfl rfl rfl) (da_cons (de_var 1) (da_cons (de_var 2) da_nil)))))))
theorem ok__law_hash (T__law_hash : TopF K mg "_law_hash" s__law_hash ["_law_seed", "_law_index"]) (Z : Zs mg) : FnG P w K mg base (0 + 1) T__law_hash.f T__law_hash.d ["_law_seed", "_law_index"] (SpP K mg false c__law_hash) := by
  show FnG P w K mg base (0 + 1) T__law_hash.f T__law_hash.d ["_law_seed", "_law_index"] (SpP K mg false (defD N__law_hash 2 false den__law_hash))
  exact fn_pure (k := 0) (own := false) (O' := []) T__law_hash.F sc__law_hash fun cdv A outer s H E ga hr => by
    unfold den__law_hash
    exact (dss_cons (ds_set 2 sc__law_hash.nd (de_op op_mod s_mod (de_btype call_int1 s_int Z.z_int rfl (da_cons (de_op op_addD s_add (de_op op_addD s_add (de_op op_addD s_add (de_op op_mulD s_mul (de_var 0) de_int) (de_op op_mulD s_mul (de_op op_mulD s_mul de_int (de_var 1)) (de_var 1))) (de_op op_mulD s_mul de_int (de_var 1))) de_int) da_nil)) de_int)) (dss_cons (ds_set 2 sc__law_hash.nd (de_op op_mod s_mod (de_btype call_int1 s_int Z.z_int rfl (da_cons (de_op op_addD s_add (de_op op_addD s_add (de_op op_mulD s_mul (de_var 2) (de_var 2)) (de_op op_mulD s_mul de_int (de_var 1))) de_int) da_nil)) de_int)) (dss_one (ds_ret (de_op op_mod s_mod (de_btype call_int1 s_int Z.z_int rfl (da_cons (de_op op_mulD s_mul (de_var 2) de_int) da_nil)) de_int)))))
theorem ok__law_random (T__law_hash : TopF K mg "_law_hash" s__law_hash ["_law_seed", "_law_index"]) (T__law_random : TopF K mg "_law_random" s__law_random ["_law_generator_here", "_law_bound"]) (Z : Zs mg) : FnG P w K mg base (1 + 1) T__law_random.f T__law_random.d ["_law_generator_here", "_law_bound"] (SpG K false c__law_random) := by
  have G__law_hash := ok__law_hash (P := P) (w := w) (base := base) T__law_hash Z
  show FnG P w K mg base (1 + 1) T__law_random.f T__law_random.d ["_law_generator_here", "_law_bound"] (SpG K false (genD N__law_random 2 false den__law_random))
  exact fn_gen (k := 1) (own := false) (O' := [0]) T__law_random.F sc__law_random rfl fun cdv A outer s H E ga hr => by
    unfold den__law_random
    exact (dss_cons (ds_if (dt_cmp op_gt s_gt (de_lend (de_ix ix_seq s_ix (de_var 0) de_int)) de_int) (dss_cons (ds_set 2 sc__law_random.nd (de_op op_mod s_mod (de_btype call_int1 s_int Z.z_int rfl (da_cons (de_lend (de_ix ix_seq s_ix (de_var 0) de_int)) da_nil)) (de_var 1))) (dss_cons (ds_sub 0 (de_op op_fdivW s_fdiv (de_lend (de_ix ix_seq s_ix (de_var 0) de_int)) (de_var 1)) de_int) (dss_one (ds_ret (de_var 2))))) dss_nil) (dss_cons (ds_set 2 sc__law_random.nd de_int) (dss_cons (ds_for PassesOwn.leaving rfl (di_rng1 Z.z_range (da_cons (de_op op_addD s_add de_int (de_op op_fdivW s_fdiv (de_bits (de_var 1)) de_int)) da_nil)) (dg_name 3 sc__law_random.nd) (dss_cons (ds_sub 0 (de_op op_addD s_add (de_lend (de_ix ix_seq s_ix (de_var 0) de_int)) de_int) de_int) (dss_one (ds_set 2 sc__law_random.nd (de_op op_addD s_add (de_op op_mulD s_mul (de_var 2) de_int) (de_call (G__law_hash.mono (by decide)) ga hr T__law_hash.m T__law_hash.F.kp T__law_hash.b (takes_of rfl rfl rfl rfl) (da_cons (de_lend (de_ix ix_seq s_ix (de_var 0) de_int)) (da_cons (de_lend (de_ix ix_seq s_ix (de_var 0) de_int)) da_nil)))))))) (dss_one (ds_ret (de_op op_mod s_mod (de_btype call_int1 s_int Z.z_int rfl (da_cons (de_var 2) da_nil)) (de_var 1)))))))
theorem ok__law_link (T__law_hash : TopF K mg "_law_hash" s__law_hash ["_law_seed", "_law_index"]) (T__law_random : TopF K mg "_law_random" s__law_random ["_law_generator_here", "_law_bound"]) (T__law_link : TopF K mg "_law_link" s__law_link ["_law_generator_here", "_law_most"]) (Z : Zs mg) : FnG P w K mg base (2 + 1) T__law_link.f T__law_link.d ["_law_generator_here", "_law_most"] (SpG K false c__law_link) := by
  have G__law_random := ok__law_random (P := P) (w := w) (base := base) T__law_hash T__law_random Z
  show FnG P w K mg base (2 + 1) T__law_link.f T__law_link.d ["_law_generator_here", "_law_most"] (SpG K false (genD N__law_link 2 false den__law_link))
  exact fn_gen (k := 2) (own := false) (O' := [0]) T__law_link.F sc__law_link rfl fun cdv A outer s H E ga hr => by
    unfold den__law_link
    exact (dss_cons (ds_par2 2 3 rfl sc__law_link.nd (dm_cons (de_op op_addD s_add de_int (de_callG 0 (G__law_random.mono (by decide)) ga hr T__law_random.m T__law_random.F.kp T__law_random.b (takes_of rfl rfl rfl rfl) (da_cons (de_var 1) da_nil))) (dm_cons (de_op op_addD s_add de_int (de_callG 0 (G__law_random.mono (by decide)) ga hr T__law_random.m T__law_random.F.kp T__law_random.b (takes_of rfl rfl rfl rfl) (da_cons (de_var 1) da_nil))) dm_nil)) (by decide) rfl) (dss_cons (ds_if (dt_cmp (op_eq.or (op_eqD (hu60 hr))) s_eq (de_callG 0 (G__law_random.mono (by decide)) ga hr T__law_random.m T__law_random.F.kp T__law_random.b (takes_of rfl rfl rfl rfl) (da_cons de_int da_nil)) de_int) (dss_one (ds_ret (de_tup (da_cons (de_var 2) (da_cons (de_var 3) (da_cons (de_op op_addD s_add (de_var 2) (de_callG 0 (G__law_random.mono (by decide)) ga hr T__law_random.m T__law_random.F.kp T__law_random.b (takes_of rfl rfl rfl rfl) (da_cons de_int da_nil))) (da_cons (de_op op_addD s_add (de_var 3) (de_callG 0 (G__law_random.mono (by decide)) ga hr T__law_random.m T__law_random.F.kp T__law_random.b (takes_of rfl rfl rfl rfl) (da_cons de_int da_nil))) da_nil))))))) dss_nil) (dss_one (ds_ret (de_tup (da_cons (de_var 2) (da_cons (de_var 3) (da_cons (de_op op_addD s_add de_int (de_callG 0 (G__law_random.mono (by decide)) ga hr T__law_random.m T__law_random.F.kp T__law_random.b (takes_of rfl rfl rfl rfl) (da_cons (de_var 1) da_nil))) (da_cons (de_op op_addD s_add de_int (de_callG 0 (G__law_random.mono (by decide)) ga hr T__law_random.m T__law_random.F.kp T__law_random.b (takes_of rfl rfl rfl rfl) (da_cons (de_var 1) da_nil))) da_nil)))))))))
theorem ok__law_odd (T__law_hash : TopF K mg "_law_hash" s__law_hash ["_law_seed", "_law_index"]) (T__law_random : TopF K mg "_law_random" s__law_random ["_law_generator_here", "_law_bound"]) (T__law_odd : TopF K mg "_law_odd" s__law_odd ["_law_generator_here", "_law_link_told", "_law_look_told"]) (Z : Zs mg) : FnG P w K mg base (2 + 1) T__law_odd.f T__law_odd.d ["_law_generator_here", "_law_link_told", "_law_look_told"] (SpG K true c__law_odd) := by
  have G__law_random := ok__law_random (P := P) (w := w) (base := base) T__law_hash T__law_random Z
  exact fn_gen (k := 2) (own := true) (O' := [3, 0]) T__law_odd.F sc__law_odd rfl fun cdv A outer s H E ga hr => by
    unfold den__law_odd
    exact (dss_cons (ds_setO 3 sc__law_odd.nd (do_lst (da_cons (de_var 2) (da_cons de_non (da_cons de_int (da_cons de_str (da_cons (de_tup da_nil) (da_cons (DO.de (do_lst da_nil)) (da_cons (DO.de do_dct0) (da_cons (de_btype c_lst s_lst Z.z_list rfl (da_cons (de_var 2) da_nil)) (da_cons (de_slice (de_var 2) dp_none (dp_some de_int)) (da_cons (de_op op_addD s_add (de_var 2) (de_tup (da_cons de_non da_nil))) da_nil)))))))))))) (dss_cons (ds_set 4 sc__law_odd.nd (DO.de (do_lst (da_cons de_non (da_cons de_int (da_cons (de_tup da_nil) (da_cons (de_tup (da_cons de_int da_nil)) (da_cons (de_tup (da_cons de_int (da_cons de_int (da_cons de_int da_nil)))) (da_cons (DO.de (do_lst (da_cons de_int (da_cons de_int da_nil)))) (da_cons (de_tup (da_cons de_int (da_cons de_bl da_nil))) (da_cons (de_tup (da_cons de_bl (da_cons de_int da_nil))) (da_cons (de_tup (da_cons de_int (da_cons (de_op op_sub s_sub de_int de_int) da_nil))) (da_cons (de_tup (da_cons (de_op op_sub s_sub de_int de_int) (da_cons de_int da_nil))) (da_cons (de_tup (da_cons de_int (da_cons de_int da_nil))) (da_cons (de_tup (da_cons de_str (da_cons de_int da_nil))) (da_cons (de_tup (da_cons de_non (da_cons de_int da_nil))) (da_cons (de_tup (da_cons (DO.de do_dct0) (da_cons de_int da_nil))) da_nil))))))))))))))))) (dss_cons (ds_set 4 sc__law_odd.nd (de_op op_addD s_add (de_op op_addD s_add (de_var 4) (DO.de (do_lc rfl sc__law_odd.nd (di_rng1 Z.z_range (da_cons de_int da_nil)) (sl := [("_law_at", 6)]) (by show BlkOk N__law_odd (defScope s__law_odd) _ _; exact ⟨rfl, by decide +kernel, by decide +kernel, by decide +kernel, by decide +kernel⟩) (fun _ _ _ _ _ => (dg_name 6 sc__law_odd.nd)) (fun _ _ _ _ _ => dts_nil) (fun _ _ _ _ _ => (de_tup (da_cons de_int (da_cons (de_ix ix_seq s_ix (de_var 1) (de_var 6)) da_nil)))) (by decide) (by decide)))) (DO.de (do_lc rfl sc__law_odd.nd (di_rng1 Z.z_range (da_cons de_int da_nil)) (sl := [("_law_at", 6)]) (by show BlkOk N__law_odd (defScope s__law_odd) _ _; exact ⟨rfl, by decide +kernel, by decide +kernel, by decide +kernel, by decide +kernel⟩) (fun _ _ _ _ _ => (dg_name 6 sc__law_odd.nd)) (fun _ _ _ _ _ => dts_nil) (fun _ _ _ _ _ => (de_tup (da_cons (de_ix ix_seq s_ix (de_var 1) (de_var 6)) (da_cons de_int da_nil)))) (by decide) (by decide))))) (dss_cons (ds_set 4 sc__law_odd.nd (de_op op_addD s_add (de_op op_addD s_add (de_var 4) (DO.de (do_lc rfl sc__law_odd.nd (di_rng1 Z.z_range (da_cons de_int da_nil)) (sl := [("_law_at", 6)]) (by show BlkOk N__law_odd (defScope s__law_odd) _ _; exact ⟨rfl, by decide +kernel, by decide +kernel, by decide +kernel, by decide +kernel⟩) (fun _ _ _ _ _ => (dg_name 6 sc__law_odd.nd)) (fun _ _ _ _ _ => dts_nil) (fun _ _ _ _ _ => (de_tup (da_cons de_int (da_cons (de_op op_sub s_sub (de_ix ix_seq s_ix (de_var 1) (de_var 6)) de_int) da_nil)))) (by decide) (by decide)))) (DO.de (do_lc rfl sc__law_odd.nd (di_rng1 Z.z_range (da_cons de_int da_nil)) (sl := [("_law_at", 6)]) (by show BlkOk N__law_odd (defScope s__law_odd) _ _; exact ⟨rfl, by decide +kernel, by decide +kernel, by decide +kernel, by decide +kernel⟩) (fun _ _ _ _ _ => (dg_name 6 sc__law_odd.nd)) (fun _ _ _ _ _ => dts_nil) (fun _ _ _ _ _ => (de_tup (da_cons de_int (da_cons (de_op op_addD s_add (de_ix ix_seq s_ix (de_var 1) (de_var 6)) de_int) da_nil)))) (by decide) (by decide))))) (dss_cons (ds_for PassesOwn.leaving rfl (di_seq (de_var 4)) (dg_name 5 sc__law_odd.nd) (dss_cons (ds_set 6 sc__law_odd.nd (de_callG 0 (G__law_random.mono (by decide)) ga hr T__law_random.m T__law_random.F.kp T__law_random.b (takes_of rfl rfl rfl rfl) (da_cons de_int da_nil))) (dss_one (ds_app 3 (de_btype c_tup s_tup Z.z_tuple rfl (da_cons (DO.de (do_lc rfl sc__law_odd.nd (di_rng1 Z.z_range (da_cons de_int da_nil)) (sl := [("_law_place", 7)]) (by show BlkOk N__law_odd (defScope s__law_odd) _ _; exact ⟨rfl, by decide +kernel, by decide +kernel, by decide +kernel, by decide +kernel⟩) (fun _ _ _ _ _ => (dg_name 7 sc__law_odd.nd)) (fun _ _ _ _ _ => dts_nil) (fun _ _ _ _ _ => (de_if (dt_cmp (op_eq.or (op_eqD (hu60 hr))) s_eq (de_var 7) (de_var 6)) (de_var 5) (de_ix ix_seq s_ix (de_var 2) (de_var 7)))) (by decide) (by decide))) da_nil)))))) (dss_one (ds_retV 3)))))))
theorem ok__law_contents (T__law_hash : TopF K mg "_law_hash" s__law_hash ["_law_seed", "_law_index"]) (T__law_random : TopF K mg "_law_random" s__law_random ["_law_generator_here", "_law_bound"]) (T__law_contents : TopF K mg "_law_contents" s__law_contents ["_law_generator_here", "_law_link_told"]) (Z : Zs mg) : FnG P w K mg base (2 + 1) T__law_contents.f T__law_contents.d ["_law_generator_here", "_law_link_told"] (SpG K false c__law_contents) := by
  have G__law_random := ok__law_random (P := P) (w := w) (base := base) T__law_hash T__law_random Z
  show FnG P w K mg base (2 + 1) T__law_contents.f T__law_contents.d ["_law_generator_here", "_law_link_told"] (SpG K false (genD N__law_contents 2 false den__law_contents))
  exact fn_gen (k := 2) (own := false) (O' := [0]) T__law_contents.F sc__law_contents rfl fun cdv A outer s H E ga hr => by
    unfold den__law_contents
    exact (dss_cons (ds_asg (de_var 1) (dg_tup rfl (dgs_cons (dg_name 2 sc__law_contents.nd) (dgs_cons (dg_name 3 sc__law_contents.nd) (dgs_cons (dg_name 4 sc__law_contents.nd) (dgs_cons (dg_name 5 sc__law_contents.nd) dgs_nil)))))) (dss_cons (ds_par2 6 7 rfl sc__law_contents.nd (dm_cons (de_callG 0 (G__law_random.mono (by decide)) ga hr T__law_random.m T__law_random.F.kp T__law_random.b (takes_of rfl rfl rfl rfl) (da_cons de_int da_nil)) (dm_cons (de_callG 0 (G__law_random.mono (by decide)) ga hr T__law_random.m T__law_random.F.kp T__law_random.b (takes_of rfl rfl rfl rfl) (da_cons de_int da_nil)) dm_nil)) (by decide) rfl) (dss_cons (ds_par2 8 9 rfl sc__law_contents.nd (dm_cons (de_callG 0 (G__law_random.mono (by decide)) ga hr T__law_random.m T__law_random.F.kp T__law_random.b (takes_of rfl rfl rfl rfl) (da_cons (de_var 4) da_nil)) (dm_cons de_non dm_nil)) (by decide) rfl) (dss_cons (ds_if (dt_cmp op_gt s_gt (de_var 8) de_int) (dss_one (ds_set 9 sc__law_contents.nd (de_tup (da_cons (de_if (dt_cmp (op_ne.or (op_neD (hu60 hr))) s_ne (de_var 6) (de_var 7)) (de_ix ix_seq s_ix (DO.de (do_lst (da_cons de_str (da_cons de_str da_nil)))) (de_callG 0 (G__law_random.mono (by decide)) ga hr T__law_random.m T__law_random.F.kp T__law_random.b (takes_of rfl rfl rfl rfl) (da_cons de_int da_nil))) de_str) (da_cons (de_var 8) da_nil))))) dss_nil) (dss_cons (ds_set 10 sc__law_contents.nd (de_callG 0 (G__law_random.mono (by decide)) ga hr T__law_random.m T__law_random.F.kp T__law_random.b (takes_of rfl rfl rfl rfl) (da_cons (de_op op_addD s_add (de_var 2) de_int) da_nil))) (dss_cons (ds_set 11 sc__law_contents.nd (de_callG 0 (G__law_random.mono (by decide)) ga hr T__law_random.m T__law_random.F.kp T__law_random.b (takes_of rfl rfl rfl rfl) (da_cons (de_op op_sub s_sub (de_op op_addD s_add (de_var 2) de_int) (de_var 10)) da_nil))) (dss_cons (ds_set 12 sc__law_contents.nd (de_callG 0 (G__law_random.mono (by decide)) ga hr T__law_random.m T__law_random.F.kp T__law_random.b (takes_of rfl rfl rfl rfl) (da_cons (de_op op_sub s_sub (de_op op_sub s_sub (de_op op_addD s_add (de_var 2) de_int) (de_var 10)) (de_var 11)) da_nil))) (dss_cons (ds_set 13 sc__law_contents.nd (de_callG 0 (G__law_random.mono (by decide)) ga hr T__law_random.m T__law_random.F.kp T__law_random.b (takes_of rfl rfl rfl rfl) (da_cons (de_op op_addD s_add (de_var 3) de_int) da_nil))) (dss_cons (ds_set 14 sc__law_contents.nd (de_tup (da_cons (de_var 13) (da_cons (de_callG 0 (G__law_random.mono (by decide)) ga hr T__law_random.m T__law_random.F.kp T__law_random.b (takes_of rfl rfl rfl rfl) (da_cons (de_op op_sub s_sub (de_op op_addD s_add (de_var 3) de_int) (de_var 13)) da_nil)) da_nil)))) (dss_one (ds_ret (de_tup (da_cons (de_tup (da_cons (de_var 6) (da_cons (de_callG 0 (G__law_random.mono (by decide)) ga hr T__law_random.m T__law_random.F.kp T__law_random.b (takes_of rfl rfl rfl rfl) (da_cons (de_var 5) da_nil)) da_nil))) (da_cons (de_tup (da_cons (de_var 7) (da_cons (de_var 9) (da_cons (de_cmp (op_eq.or (op_eqD (hu60 hr))) s_eq (de_callG 0 (G__law_random.mono (by decide)) ga hr T__law_random.m T__law_random.F.kp T__law_random.b (takes_of rfl rfl rfl rfl) (da_cons de_int da_nil)) de_int) da_nil)))) (da_cons (de_tup (da_cons (de_var 10) (da_cons (de_var 11) (da_cons (de_var 12) da_nil)))) (da_cons (de_var 14) da_nil))))))))))))))))
theorem ok__law_counts (T__law_hash : TopF K mg "_law_hash" s__law_hash ["_law_seed", "_law_index"]) (T__law_random : TopF K mg "_law_random" s__law_random ["_law_generator_here", "_law_bound"]) (T__law_counts : TopF K mg "_law_counts" s__law_counts ["_law_generator_here", "_law_most"]) (Z : Zs mg) : FnG P w K mg base (2 + 1) T__law_counts.f T__law_counts.d ["_law_generator_here", "_law_most"] (SpG K false c__law_counts) := by
  have G__law_random := ok__law_random (P := P) (w := w) (base := base) T__law_hash T__law_random Z
  exact fn_gen (k := 2) (own := false) (O' := [0]) T__law_counts.F sc__law_counts rfl fun cdv A outer s H E ga hr => by
    unfold den__law_counts
    exact (dss_cons (ds_set 2 sc__law_counts.nd (de_callG 0 (G__law_random.mono (by decide)) ga hr T__law_random.m T__law_random.F.kp T__law_random.b (takes_of rfl rfl rfl rfl) (da_cons (de_op op_addD s_add (de_var 1) de_int) da_nil))) (dss_one (ds_ret (de_tup (da_cons (de_var 2) (da_cons (de_callG 0 (G__law_random.mono (by decide)) ga hr T__law_random.m T__law_random.F.kp T__law_random.b (takes_of rfl rfl rfl rfl) (da_cons (de_op op_sub s_sub (de_op op_addD s_add (de_var 1) de_int) (de_var 2)) da_nil)) da_nil))))))
theorem ok__law_look (T__law_hash : TopF K mg "_law_hash" s__law_hash ["_law_seed", "_law_index"]) (T__law_random : TopF K mg "_law_random" s__law_random ["_law_generator_here", "_law_bound"]) (T__law_counts : TopF K mg "_law_counts" s__law_counts ["_law_generator_here", "_law_most"]) (T__law_look : TopF K mg "_law_look" s__law_look ["_law_generator_here", "_law_link_told"]) (Z : Zs mg) : FnG P w K mg base (3 + 1) T__law_look.f T__law_look.d ["_law_generator_here", "_law_link_told"] (SpG K false c__law_look) := by
  have G__law_random := ok__law_random (P := P) (w := w) (base := base) T__law_hash T__law_random Z
  have G__law_counts := ok__law_counts (P := P) (w := w) (base := base) T__law_hash T__law_random T__law_counts Z
  exact fn_gen (k := 3) (own := false) (O' := [0]) T__law_look.F sc__law_look rfl fun cdv A outer s H E ga hr => by
    unfold den__law_look
    exact (dss_cons (ds_asg (de_var 1) (dg_tup rfl (dgs_cons (dg_name 2 sc__law_look.nd) (dgs_cons (dg_name 3 sc__law_look.nd) (dgs_cons (dg_name 4 sc__law_look.nd) (dgs_cons (dg_name 5 sc__law_look.nd) dgs_nil)))))) (dss_cons (ds_set 6 sc__law_look.nd (DO.de (do_lst (da_cons (de_tup (da_cons (de_callG 0 (G__law_random.mono (by decide)) ga hr T__law_random.m T__law_random.F.kp T__law_random.b (takes_of rfl rfl rfl rfl) (da_cons de_int da_nil)) (da_cons (de_callG 0 (G__law_random.mono (by decide)) ga hr T__law_random.m T__law_random.F.kp T__law_random.b (takes_of rfl rfl rfl rfl) (da_cons (de_var 5) da_nil)) da_nil))) (da_cons (de_tup (da_cons (de_callG 0 (G__law_random.mono (by decide)) ga hr T__law_random.m T__law_random.F.kp T__law_random.b (takes_of rfl rfl rfl rfl) (da_cons de_int da_nil)) (da_cons (de_callG 0 (G__law_random.mono (by decide)) ga hr T__law_random.m T__law_random.F.kp T__law_random.b (takes_of rfl rfl rfl rfl) (da_cons (de_var 4) da_nil)) da_nil))) da_nil))))) (dss_cons (ds_set 6 sc__law_look.nd (de_op op_addD s_add (de_var 6) (DO.de (do_lst (da_cons (de_callG 0 (G__law_counts.mono (by decide)) ga hr T__law_counts.m T__law_counts.F.kp T__law_counts.b (takes_of rfl rfl rfl rfl) (da_cons (de_var 2) da_nil)) (da_cons (de_callG 0 (G__law_counts.mono (by decide)) ga hr T__law_counts.m T__law_counts.F.kp T__law_counts.b (takes_of rfl rfl rfl rfl) (da_cons (de_var 3) da_nil)) da_nil)))))) (dss_one (ds_ret (de_btype c_tup s_tup Z.z_tuple rfl (da_cons (DO.de (do_lc rfl sc__law_look.nd (di_seq (de_var 6)) (sl := [("_law_part", 7)]) (by show BlkOk N__law_look (defScope s__law_look) _ _; exact ⟨rfl, by decide +kernel, by decide +kernel, by decide +kernel, by decide +kernel⟩) (fun _ _ _ _ _ => (dg_name 7 sc__law_look.nd)) (fun _ _ _ _ _ => dts_nil) (fun _ _ _ _ _ => (de_if (dt_cmp op_gt s_gt (de_callG 0 (G__law_random.mono (by decide)) ga hr T__law_random.m T__law_random.F.kp T__law_random.b takes0 (da_cons de_int da_nil)) de_int) (de_var 7) de_non)) (by decide) (by decide))) da_nil)))))))
theorem ok__law_seen (T__law_seen : TopF K mg "_law_seen" s__law_seen ["_law_here"]) (Z : Zs mg) : FnG P w K mg base (0 + 1) T__law_seen.f T__law_seen.d ["_law_here"] (SpP K mg false c__law_seen) := by
  exact fn_pure (k := 0) (own := false) (O' := []) T__law_seen.F sc__law_seen fun cdv A outer s H E ga hr => by
    unfold den__law_seen
    exact (dss_cons (ds_asg (de_var 0) (dg_tup rfl (dgs_cons (dg_tup rfl (dgs_cons (dg_name 1 sc__law_seen.nd) (dgs_cons (dg_name 2 sc__law_seen.nd) dgs_nil))) (dgs_cons (dg_tup rfl (dgs_cons (dg_name 3 sc__law_seen.nd) (dgs_cons (dg_name 4 sc__law_seen.nd) (dgs_cons (dg_name 5 sc__law_seen.nd) dgs_nil)))) (dgs_cons (dg_tup rfl (dgs_cons (dg_name 6 sc__law_seen.nd) (dgs_cons (dg_name 7 sc__law_seen.nd) (dgs_cons (dg_name 8 sc__law_seen.nd) dgs_nil)))) (dgs_cons (dg_name 9 sc__law_seen.nd) dgs_nil)))))) (dss_one (ds_ret (de_tup (da_cons (de_tup (da_cons (de_var 1) (da_cons (de_var 2) da_nil))) (da_cons (de_tup (da_cons (de_var 3) (da_cons (de_if (dt_cmp op_notN s_notN (de_var 4) de_non) (de_ix ix_seq s_ix (de_var 4) de_int) de_int) da_nil))) (da_cons (de_if (dt_cmp (op_eq.or (op_eqD (hu60 hr))) s_eq (de_var 1) de_int) (de_tup (da_cons (de_op op_addD s_add (de_var 7) (de_var 6)) (da_cons (de_var 8) da_nil))) (de_tup (da_cons (de_var 7) (da_cons (de_op op_addD s_add (de_var 8) (de_var 6)) da_nil)))) (da_cons (de_var 9) da_nil))))))))
theorem ok__law_two (T__law_two : TopF K mg "_law_two" s__law_two ["_law_some", "_law_most"]) (Z : Zs mg) : FnG P w K mg base (0 + 1) T__law_two.f T__law_two.d ["_law_some", "_law_most"] (SpP K mg false c__law_two) := by
  exact fn_pure (k := 0) (own := false) (O' := []) T__law_two.F sc__law_two fun cdv A outer s H E ga hr => by
    unfold den__law_two
    exact (dss_cons (ds_if (dt_cmp op_isN s_isN (de_var 0) de_non) (dss_one (ds_ret de_bl)) dss_nil) (dss_cons (ds_if (DW.dt (dw_or (dt_not (dt_tru (de_bltn call_isi s_isi Z.z_isinstance rfl (da_cons (de_var 0) (da_cons (de_ty Z.z_tuple rfl) da_nil))))) (dw_or (dt_cmp (op_ne.or (op_neD (hu60 hr))) s_ne (de_bltn c_len s_len Z.z_len rfl (da_cons (de_var 0) da_nil)) de_int) (dw_or1 (dt_cmp ((op_ne.or (op_neD (hu60 hr))).or (op_neLen (hu60 hr))) s_neX (DO.de (do_lc rfl sc__law_two.nd (di_seq (de_var 0)) (sl := [("_law_item", 2)]) (by show BlkOk N__law_two (defScope s__law_two) _ _; exact ⟨rfl, by decide +kernel, by decide +kernel, by decide +kernel, by decide +kernel⟩) (fun _ _ _ _ _ => (dg_name 2 sc__law_two.nd)) (fun _ _ _ _ _ => (dts_one (DW.dt (dw_or (dt_tru (de_bltn call_isi s_isi Z.z_isinstance rfl (da_cons (de_var 2) (da_cons (de_ty Z.z_bool rfl) da_nil)))) (dw_or1 (dt_not (dt_tru (de_bltn call_isi s_isi Z.z_isinstance rfl (da_cons (de_var 2) (da_cons (de_ty Z.z_int rfl) da_nil)))))))))) (fun _ _ _ _ _ => (de_var 2)) (by decide) (by decide))) (DO.de (do_lst da_nil))))))) (dss_one (ds_ret de_bl)) dss_nil) (dss_one (ds_ret (de_and (de_cmp op_ge s_ge (de_ix ix_seq s_ix (de_var 0) de_int) de_int) (de_and (de_cmp op_ge s_ge (de_ix ix_seq s_ix (de_var 0) de_int) de_int) (de_one (de_cmp op_le s_le (de_op op_addD s_add (de_ix ix_seq s_ix (de_var 0) de_int) (de_ix ix_seq s_ix (de_var 0) de_int)) (de_var 1)))))))))
theorem ok__law_pair (T__law_pair : TopF K mg "_law_pair" s__law_pair ["_law_some", "_law_most"]) (Z : Zs mg) : FnG P w K mg base (0 + 1) T__law_pair.f T__law_pair.d ["_law_some", "_law_most"] (SpP K mg false c__law_pair) := by
  exact fn_pure (k := 0) (own := false) (O' := []) T__law_pair.F sc__law_pair fun cdv A outer s H E ga hr => by
    unfold den__law_pair
    exact (dss_cons (ds_if (dt_cmp op_isN s_isN (de_var 0) de_non) (dss_one (ds_ret de_bl)) dss_nil) (dss_cons (ds_if (DW.dt (dw_or (dt_not (dt_tru (de_bltn call_isi s_isi Z.z_isinstance rfl (da_cons (de_var 0) (da_cons (de_ty Z.z_tuple rfl) da_nil))))) (dw_or (dt_cmp (op_ne.or (op_neD (hu60 hr))) s_ne (de_bltn c_len s_len Z.z_len rfl (da_cons (de_var 0) da_nil)) de_int) (dw_or1 (dt_cmp ((op_ne.or (op_neD (hu60 hr))).or (op_neLen (hu60 hr))) s_neX (DO.de (do_lc rfl sc__law_pair.nd (di_seq (de_var 0)) (sl := [("_law_item", 2)]) (by show BlkOk N__law_pair (defScope s__law_pair) _ _; exact ⟨rfl, by decide +kernel, by decide +kernel, by decide +kernel, by decide +kernel⟩) (fun _ _ _ _ _ => (dg_name 2 sc__law_pair.nd)) (fun _ _ _ _ _ => (dts_one (DW.dt (dw_or (dt_tru (de_bltn call_isi s_isi Z.z_isinstance rfl (da_cons (de_var 2) (da_cons (de_ty Z.z_bool rfl) da_nil)))) (dw_or1 (dt_not (dt_tru (de_bltn call_isi s_isi Z.z_isinstance rfl (da_cons (de_var 2) (da_cons (de_ty Z.z_int rfl) da_nil)))))))))) (fun _ _ _ _ _ => (de_var 2)) (by decide) (by decide))) (DO.de (do_lst da_nil))))))) (dss_one (ds_ret de_bl)) dss_nil) (dss_one (ds_ret (de_and (de_cmp (op_inAD (hu65 hr)) s_inA (de_ix ix_seq s_ix (de_var 0) de_int) (DO.de (do_lst (da_cons de_int (da_cons de_int da_nil))))) (de_one (de_chain op_le s_le op_lt s_lt de_int (de_ix ix_seq s_ix (de_var 0) de_int) (de_var 1))))))))
theorem ok__law_is_view (T__law_pair : TopF K mg "_law_pair" s__law_pair ["_law_some", "_law_most"]) (T__law_two : TopF K mg "_law_two" s__law_two ["_law_some", "_law_most"]) (T__law_is_view : TopF K mg "_law_is_view" s__law_is_view ["_law_link_told", "_law_some"]) (Z : Zs mg) : FnG P w K mg base (1 + 1) T__law_is_view.f T__law_is_view.d ["_law_link_told", "_law_some"] (SpP K mg false c__law_is_view) := by
  have G__law_pair := ok__law_pair (P := P) (w := w) (base := base) T__law_pair Z
  have G__law_two := ok__law_two (P := P) (w := w) (base := base) T__law_two Z
  exact fn_pure (k := 1) (own := false) (O' := []) T__law_is_view.F sc__law_is_view fun cdv A outer s H E ga hr => by
    unfold den__law_is_view
    exact (dss_cons (ds_if (DW.dt (dw_or (dt_not (dt_tru (de_bltn call_isi s_isi Z.z_isinstance rfl (da_cons (de_var 1) (da_cons (de_ty Z.z_tuple rfl) da_nil))))) (dw_or (dt_cmp (op_ne.or (op_neD (hu60 hr))) s_ne (de_bltn c_len s_len Z.z_len rfl (da_cons (de_var 1) da_nil)) de_int) (dw_or (dt_not (dt_tru (de_call (G__law_pair.mono (by decide)) ga hr T__law_pair.m T__law_pair.F.kp T__law_pair.b (takes_of rfl rfl rfl rfl) (da_cons (de_ix ix_seq s_ix (de_var 1) de_int) (da_cons (de_ix ix_seq s_ix (de_var 0) de_int) da_nil))))) (dw_or1 (dt_not (dt_tru (de_call (G__law_pair.mono (by decide)) ga hr T__law_pair.m T__law_pair.F.kp T__law_pair.b (takes_of rfl rfl rfl rfl) (da_cons (de_ix ix_seq s_ix (de_var 1) de_int) (da_cons (de_ix ix_seq s_ix (de_var 0) de_int) da_nil)))))))))) (dss_one (ds_ret de_bl)) dss_nil) (dss_one (ds_ret (de_and (de_call (G__law_two.mono (by decide)) ga hr T__law_two.m T__law_two.F.kp T__law_two.b (takes_of rfl rfl rfl rfl) (da_cons (de_ix ix_seq s_ix (de_var 1) de_int) (da_cons (de_ix ix_seq s_ix (de_var 0) de_int) da_nil))) (de_one (de_call (G__law_two.mono (by decide)) ga hr T__law_two.m T__law_two.F.kp T__law_two.b (takes_of rfl rfl rfl rfl) (da_cons (de_ix ix_seq s_ix (de_var 1) de_int) (da_cons (de_ix ix_seq s_ix (de_var 0) de_int) da_nil))))))))
theorem ok_is_view (T_is_tuple_of : TopF K mg "is_tuple_of" s_is_tuple_of ["value", "size"]) (T_is_whole : TopF K mg "is_whole" s_is_whole ["value"]) (T_is_count : TopF K mg "is_count" s_is_count ["value"]) (T_is_link : TopF K mg "is_link" s_is_link ["value"]) (T_need_link : TopF K mg "need_link" s_need_link ["link"]) (T_is_bit : TopF K mg "is_bit" s_is_bit ["value"]) (T_is_sender : TopF K mg "is_sender" s_is_sender ["link", "value"]) (T_is_seen_receiver : TopF K mg "is_seen_receiver" s_is_seen_receiver ["link", "value"]) (T_are_counts : TopF K mg "are_counts" s_are_counts ["value", "size", "most"]) (T_is_view_of : TopF K mg "is_view_of" s_is_view_of ["link", "value"]) (T_is_view : TopF K mg "is_view" s_is_view ["link", "value"]) (Z : Zs mg) : FnG P w K mg base (5 + 1) T_is_view.f T_is_view.d ["link", "value"] (SpP K mg false c_is_view) := by
  have G_need_link := ok_need_link (P := P) (w := w) (base := base) T_is_tuple_of T_is_whole T_is_count T_is_link T_need_link Z
  have G_is_view_of := ok_is_view_of (P := P) (w := w) (base := base) T_is_tuple_of T_is_whole T_is_count T_is_bit T_is_sender T_is_seen_receiver T_are_counts T_is_view_of Z
  show FnG P w K mg base (5 + 1) T_is_view.f T_is_view.d ["link", "value"] (SpP K mg false (defD N_is_view 2 false den_is_view))
  exact fn_pure (k := 5) (own := false) (O' := []) T_is_view.F sc_is_view fun cdv A outer s H E ga hr => by
    unfold den_is_view
    exact (dss_cons (ds_expr (de_call (G_need_link.mono (by decide)) ga hr T_need_link.m T_need_link.F.kp T_need_link.b (takes_of rfl rfl rfl rfl) (da_cons (de_var 0) da_nil))) (dss_one (ds_ret (de_call (G_is_view_of.mono (by decide)) ga hr T_is_view_of.m T_is_view_of.F.kp T_is_view_of.b (takes_of rfl rfl rfl rfl) (da_cons (de_var 0) (da_cons (de_var 1) da_nil))))))
theorem ok__law_looks (T__law_seen : TopF K mg "_law_seen" s__law_seen ["_law_here"]) (T__law_looks : TopF K mg "_law_looks" s__law_looks ["_law_here", "_law_look_told"]) (Z : Zs mg) : FnG P w K mg base (1 + 1) T__law_looks.f T__law_looks.d ["_law_here", "_law_look_told"] (SpP K mg false c__law_looks) := by
  have G__law_seen := ok__law_seen (P := P) (w := w) (base := base) T__law_seen Z
  exact fn_pure (k := 1) (own := false) (O' := []) T__law_looks.F sc__law_looks fun cdv A outer s H E ga hr => by
    unfold den__law_looks
    exact (dss_cons (ds_set 2 sc__law_looks.nd (de_call (G__law_seen.mono (by decide)) ga hr T__law_seen.m T__law_seen.F.kp T__law_seen.b (takes_of rfl rfl rfl rfl) (da_cons (de_var 0) da_nil))) (dss_one (ds_ret (de_cmp ((op_eq.or (op_eqD (hu60 hr))).or (op_eqLen (hu60 hr))) s_eqX (DO.de (do_lc rfl sc__law_looks.nd (di_rng1 Z.z_range (da_cons de_int da_nil)) (sl := [("_law_at", 3)]) (by show BlkOk N__law_looks (defScope s__law_looks) _ _; exact ⟨rfl, by decide +kernel, by decide +kernel, by decide +kernel, by decide +kernel⟩) (fun _ _ _ _ _ => (dg_name 3 sc__law_looks.nd)) (fun _ _ _ _ _ => (dts_one (DW.dt (dw_and (dt_cmp op_notN s_notN (de_ix ix_seq s_ix (de_var 1) (de_var 3)) de_non) (dw_and1 (dt_cmp (op_ne.or (op_neD (hu60 hr))) s_ne (de_ix ix_seq s_ix (de_var 1) (de_var 3)) (de_ix ix_seq s_ix (de_var 2) (de_var 3)))))))) (fun _ _ _ _ _ => (de_var 3)) (by decide) (by decide))) (DO.de (do_lst da_nil))))))
theorem ok__law_right (T__law_hash : TopF K mg "_law_hash" s__law_hash ["_law_seed", "_law_index"]) (T__law_random : TopF K mg "_law_random" s__law_random ["_law_generator_here", "_law_bound"]) (T__law_link : TopF K mg "_law_link" s__law_link ["_law_generator_here", "_law_most"]) (T__law_counts : TopF K mg "_law_counts" s__law_counts ["_law_generator_here", "_law_most"]) (T__law_look : TopF K mg "_law_look" s__law_look ["_law_generator_here", "_law_link_told"]) (T__law_contents : TopF K mg "_law_contents" s__law_contents ["_law_generator_here", "_law_link_told"]) (T__law_odd : TopF K mg "_law_odd" s__law_odd ["_law_generator_here", "_law_link_told", "_law_look_told"]) (T__law_pair : TopF K mg "_law_pair" s__law_pair ["_law_some", "_law_most"]) (T__law_two : TopF K mg "_law_two" s__law_two ["_law_some", "_law_most"]) (T__law_is_view : TopF K mg "_law_is_view" s__law_is_view ["_law_link_told", "_law_some"]) (T_is_tuple_of : TopF K mg "is_tuple_of" s_is_tuple_of ["value", "size"]) (T_is_whole : TopF K mg "is_whole" s_is_whole ["value"]) (T_is_count : TopF K mg "is_count" s_is_count ["value"]) (T_is_link : TopF K mg "is_link" s_is_link ["value"]) (T_need_link : TopF K mg "need_link" s_need_link ["link"]) (T_is_bit : TopF K mg "is_bit" s_is_bit ["value"]) (T_is_sender : TopF K mg "is_sender" s_is_sender ["link", "value"]) (T_is_seen_receiver : TopF K mg "is_seen_receiver" s_is_seen_receiver ["link", "value"]) (T_are_counts : TopF K mg "are_counts" s_are_counts ["value", "size", "most"]) (T_is_view_of : TopF K mg "is_view_of" s_is_view_of ["link", "value"]) (T_is_view : TopF K mg "is_view" s_is_view ["link", "value"]) (T__law_seen : TopF K mg "_law_seen" s__law_seen ["_law_here"]) (T_is_lot : TopF K mg "is_lot" s_is_lot ["link", "unlike", "value"]) (T_is_receiver : TopF K mg "is_receiver" s_is_receiver ["link", "sent", "value"]) (T_fits_link : TopF K mg "fits_link" s_fits_link ["link", "value"]) (T_need_contents : TopF K mg "need_contents" s_need_contents ["link", "contents"]) (T_seen_of : TopF K mg "seen_of" s_seen_of ["contents"]) (T_view_of : TopF K mg "view_of" s_view_of ["link", "contents"]) (T_need_view : TopF K mg "need_view" s_need_view ["link", "view"]) (T_are_places : TopF K mg "are_places" s_are_places ["value"]) (T_covered : TopF K mg "covered" s_covered ["link", "view", "places"]) (T_fits_view : TopF K mg "fits_view" s_fits_view ["contents", "view"]) (T_looks_so : TopF K mg "looks_so" s_looks_so ["link", "contents", "view"]) (T__law_looks : TopF K mg "_law_looks" s__law_looks ["_law_here", "_law_look_told"]) (T__law_right : TopF K mg "_law_right" s__law_right ["_law_generator_here"]) (kb_covered_2_1_0 : KwBinds K T_covered.d ["link", "view", "places"] ["places", "view", "link"] [2, 1, 0]) (kb_is_view_1_0 : KwBinds K T_is_view.d ["link", "value"] ["value", "link"] [1, 0]) (kb_looks_so_2_1_0 : KwBinds K T_looks_so.d ["link", "contents", "view"] ["view", "contents", "link"] [2, 1, 0]) (kb_view_of_1_0 : KwBinds K T_view_of.d ["link", "contents"] ["contents", "link"] [1, 0]) (Z : Zs mg) : FnG P w K mg base (7 + 1) T__law_right.f T__law_right.d ["_law_generator_here"] (SpG K false c__law_right) := by
  have G__law_link := ok__law_link (P := P) (w := w) (base := base) T__law_hash T__law_random T__law_link Z
  have G__law_random := ok__law_random (P := P) (w := w) (base := base) T__law_hash T__law_random Z
  have G__law_look := ok__law_look (P := P) (w := w) (base := base) T__law_hash T__law_random T__law_counts T__law_look Z
  have G__law_contents := ok__law_contents (P := P) (w := w) (base := base) T__law_hash T__law_random T__law_contents Z
  have G__law_odd := ok__law_odd (P := P) (w := w) (base := base) T__law_hash T__law_random T__law_odd Z
  have G__law_is_view := ok__law_is_view (P := P) (w := w) (base := base) T__law_pair T__law_two T__law_is_view Z
  have G_is_view := ok_is_view (P := P) (w := w) (base := base) T_is_tuple_of T_is_whole T_is_count T_is_link T_need_link T_is_bit T_is_sender T_is_seen_receiver T_are_counts T_is_view_of T_is_view Z
  have G__law_seen := ok__law_seen (P := P) (w := w) (base := base) T__law_seen Z
  have G_view_of := ok_view_of (P := P) (w := w) (base := base) T_is_tuple_of T_is_whole T_is_count T_is_link T_need_link T_is_bit T_is_sender T_is_lot T_is_receiver T_are_counts T_fits_link T_need_contents T_seen_of T_view_of Z
  have G_covered := ok_covered (P := P) (w := w) (base := base) T_is_tuple_of T_is_whole T_is_count T_is_link T_need_link T_is_bit T_is_sender T_is_seen_receiver T_are_counts T_is_view_of T_need_view T_are_places T_covered Z
  have G_looks_so := ok_looks_so (P := P) (w := w) (base := base) T_is_tuple_of T_is_whole T_is_count T_is_link T_need_link T_is_bit T_is_sender T_is_lot T_is_receiver T_are_counts T_fits_link T_need_contents T_is_seen_receiver T_is_view_of T_need_view T_seen_of T_fits_view T_looks_so Z
  have G__law_looks := ok__law_looks (P := P) (w := w) (base := base) T__law_seen T__law_looks Z
  exact fn_gen (k := 7) (own := false) (O' := [0]) T__law_right.F sc__law_right rfl fun cdv A outer s H E ga hr => by
    unfold den__law_right
    exact (dss_cons (ds_set 1 sc__law_right.nd (de_callG 0 (G__law_link.mono (by decide)) ga hr T__law_link.m T__law_link.F.kp T__law_link.b (takes_of rfl rfl rfl rfl) (da_cons de_int da_nil))) (dss_cons (ds_if (dt_cmp (op_eq.or (op_eqD (hu60 hr))) s_eq (de_callG 0 (G__law_random.mono (by decide)) ga hr T__law_random.m T__law_random.F.kp T__law_random.b (takes_of rfl rfl rfl rfl) (da_cons de_int da_nil)) de_int) (dss_one (ds_set 1 sc__law_right.nd (de_btype c_tup s_tup Z.z_tuple rfl (da_cons (DO.de (do_lc rfl sc__law_right.nd (di_rng1 Z.z_range (da_cons de_int da_nil)) (sl := [("_law_turn", 12)]) (by show BlkOk N__law_right (defScope s__law_right) _ _; exact ⟨rfl, by decide +kernel, by decide +kernel, by decide +kernel, by decide +kernel⟩) (fun _ _ _ _ _ => (dg_name 12 sc__law_right.nd)) (fun _ _ _ _ _ => dts_nil) (fun _ _ _ _ _ => (de_op op_addD s_add de_int (de_callG 0 (G__law_random.mono (by decide)) ga hr T__law_random.m T__law_random.F.kp T__law_random.b takes0 (da_cons (de_op op_powW s_pow de_int de_int) da_nil)))) (by decide) (by decide))) da_nil)))) dss_nil) (dss_cons (ds_asg (de_tup (da_cons (de_callG 0 (G__law_contents.mono (by decide)) ga hr T__law_contents.m T__law_contents.F.kp T__law_contents.b (takes_of rfl rfl rfl rfl) (da_cons (de_var 1) da_nil)) (da_cons (de_callG 0 (G__law_look.mono (by decide)) ga hr T__law_look.m T__law_look.F.kp T__law_look.b (takes_of rfl rfl rfl rfl) (da_cons (de_var 1) da_nil)) da_nil))) (dg_tup rfl (dgs_cons (dg_name 2 sc__law_right.nd) (dgs_cons (dg_name 3 sc__law_right.nd) dgs_nil)))) (dss_cons (ds_set 4 sc__law_right.nd (de_bltn ((call_show ga (hu60 hr)).or (call_showE ga (hu60 hr))) s_reprE Z.z_repr rfl (da_cons (DO.de (do_lst (da_cons (de_var 1) (da_cons (de_var 2) (da_cons (de_var 3) da_nil))))) da_nil))) (dss_cons (ds_for PassesOwn.leaving rfl (di_seq (DO.de (do_callG 0 (G__law_odd.mono (by decide)) ga hr T__law_odd.m T__law_odd.F.kp T__law_odd.b (takes_of rfl rfl rfl rfl) (da_cons (de_var 1) (da_cons (de_var 3) da_nil))))) (dg_name 5 sc__law_right.nd) (dss_cons (ds_par2 6 7 rfl sc__law_right.nd (dm_cons (de_bltn ((call_show ga (hu60 hr)).or (call_showE ga (hu60 hr))) s_reprE Z.z_repr rfl (da_cons (de_var 5) da_nil)) (dm_cons (de_call (G__law_is_view.mono (by decide)) ga hr T__law_is_view.m T__law_is_view.F.kp T__law_is_view.b (takes_of rfl rfl rfl rfl) (da_cons (de_var 1) (da_cons (de_var 5) da_nil))) dm_nil)) (by decide) rfl) (dss_one (ds_if (DW.dt (dw_or (dt_cmp (op_ne.or (op_neD (hu60 hr))) s_ne (de_bltn ((call_show ga (hu60 hr)).or (call_showE ga (hu60 hr))) s_reprE Z.z_repr rfl (da_cons (de_call (G_is_view.mono (by decide)) ga hr T_is_view.m T_is_view.F.kp T_is_view.b (takes_of rfl rfl rfl rfl) (da_cons (de_var 1) (da_cons (de_var 5) da_nil))) da_nil)) (de_bltn ((call_show ga (hu60 hr)).or (call_showE ga (hu60 hr))) s_reprE Z.z_repr rfl (da_cons (de_var 7) da_nil))) (dw_or (dt_cmp (op_ne.or (op_neD (hu60 hr))) s_ne (de_bltn ((call_show ga (hu60 hr)).or (call_showE ga (hu60 hr))) s_reprE Z.z_repr rfl (da_cons (de_callK (ks := ["value", "link"]) (pm := [1, 0]) (G_is_view.mono (by decide)) ga hr T_is_view.m T_is_view.F.kp kb_is_view_1_0 (dk_cons (de_var 5) (dk_cons (de_var 1) dk_nil))) da_nil)) (de_bltn ((call_show ga (hu60 hr)).or (call_showE ga (hu60 hr))) s_reprE Z.z_repr rfl (da_cons (de_var 7) da_nil))) (dw_or1 (dt_cmp (op_ne.or (op_neD (hu60 hr))) s_ne (de_bltn ((call_show ga (hu60 hr)).or (call_showE ga (hu60 hr))) s_reprE Z.z_repr rfl (da_cons (de_var 5) da_nil)) (de_var 6)))))) (dss_one (ds_ret de_bl)) dss_nil)))) (dss_cons (ds_asg (de_tup (da_cons (de_call (G__law_seen.mono (by decide)) ga hr T__law_seen.m T__law_seen.F.kp T__law_seen.b (takes_of rfl rfl rfl rfl) (da_cons (de_var 2) da_nil)) (da_cons (DO.de (do_lc rfl sc__law_right.nd (di_rng1 Z.z_range (da_cons de_int da_nil)) (sl := [("_law_at", 13)]) (by show BlkOk N__law_right (defScope s__law_right) _ _; exact ⟨rfl, by decide +kernel, by decide +kernel, by decide +kernel, by decide +kernel⟩) (fun _ _ _ _ _ => (dg_name 13 sc__law_right.nd)) (fun _ _ _ _ _ => (dts_one (dt_cmp (op_eq.or (op_eqD (hu60 hr))) s_eq (de_callG 0 (G__law_random.mono (by decide)) ga hr T__law_random.m T__law_random.F.kp T__law_random.b takes0 (da_cons de_int da_nil)) de_int))) (fun _ _ _ _ _ => (de_var 13)) (by decide) (by decide))) da_nil))) (dg_tup rfl (dgs_cons (dg_name 8 sc__law_right.nd) (dgs_cons (dg_name 9 sc__law_right.nd) dgs_nil)))) (dss_cons (ds_if (DW.dt (dw_or (dt_cmp (op_ne.or (op_neD (hu60 hr))) s_ne (de_bltn ((call_show ga (hu60 hr)).or (call_showE ga (hu60 hr))) s_reprE Z.z_repr rfl (da_cons (DO.de (do_lst (da_cons (de_call (G_view_of.mono (by decide)) ga hr T_view_of.m T_view_of.F.kp T_view_of.b (takes_of rfl rfl rfl rfl) (da_cons (de_var 1) (da_cons (de_var 2) da_nil))) (da_cons (de_callK (ks := ["contents", "link"]) (pm := [1, 0]) (G_view_of.mono (by decide)) ga hr T_view_of.m T_view_of.F.kp kb_view_of_1_0 (dk_cons (de_var 2) (dk_cons (de_var 1) dk_nil))) da_nil)))) da_nil)) (de_bltn ((call_show ga (hu60 hr)).or (call_showE ga (hu60 hr))) s_reprE Z.z_repr rfl (da_cons (DO.de (do_lst (da_cons (de_var 8) (da_cons (de_var 8) da_nil)))) da_nil))) (dw_or1 (dt_cmp op_notA s_notA (de_call (G_is_view.mono (by decide)) ga hr T_is_view.m T_is_view.F.kp T_is_view.b (takes_of rfl rfl rfl rfl) (da_cons (de_var 1) (da_cons (de_var 8) da_nil))) de_bl)))) (dss_one (ds_ret de_bl)) dss_nil) (dss_cons (ds_set 10 sc__law_right.nd (de_btype c_tup s_tup Z.z_tuple rfl (da_cons (DO.de (do_lc rfl sc__law_right.nd (di_rng1 Z.z_range (da_cons de_int da_nil)) (sl := [("_law_at", 13)]) (by show BlkOk N__law_right (defScope s__law_right) _ _; exact ⟨rfl, by decide +kernel, by decide +kernel, by decide +kernel, by decide +kernel⟩) (fun _ _ _ _ _ => (dg_name 13 sc__law_right.nd)) (fun _ _ _ _ _ => dts_nil) (fun _ _ _ _ _ => (de_if (dt_cmp (op_eq.or (op_eqD (hu60 hr))) s_eq (de_callG 0 (G__law_random.mono (by decide)) ga hr T__law_random.m T__law_random.F.kp T__law_random.b takes0 (da_cons de_int da_nil)) de_int) (de_ix ix_seq s_ix (de_var 8) (de_var 13)) (de_ix ix_seq s_ix (de_var 3) (de_var 13)))) (by decide) (by decide))) da_nil))) (dss_cons (ds_for PassesOwn.leaving rfl (di_seq (DO.de (do_lst (da_cons (de_var 3) (da_cons (de_var 8) (da_cons (de_var 10) (da_cons (de_tup (da_cons de_non (da_cons de_non (da_cons de_non (da_cons de_non da_nil))))) da_nil))))))) (dg_name 5 sc__law_right.nd) (dss_cons (ds_par2 7 6 rfl sc__law_right.nd (dm_cons (de_btype c_tup s_tup Z.z_tuple rfl (da_cons (DO.de (do_lc rfl sc__law_right.nd (di_rng1 Z.z_range (da_cons de_int da_nil)) (sl := [("_law_at", 13)]) (by show BlkOk N__law_right (defScope s__law_right) _ _; exact ⟨rfl, by decide +kernel, by decide +kernel, by decide +kernel, by decide +kernel⟩) (fun _ _ _ _ _ => (dg_name 13 sc__law_right.nd)) (fun _ _ _ _ _ => dts_nil) (fun _ _ _ _ _ => (de_if (dt_cmp (op_inAD (hu65 hr)) s_inA (de_var 13) (de_var 9)) de_non (de_ix ix_seq s_ix (de_var 5) (de_var 13)))) (by decide) (by decide))) da_nil)) (dm_cons (de_bltn ((call_show ga (hu60 hr)).or (call_showE ga (hu60 hr))) s_reprE Z.z_repr rfl (da_cons (de_var 9) da_nil)) dm_nil)) (by decide) rfl) (dss_cons (ds_if (DW.dt (dw_or (dt_cmp (op_ne.or (op_neD (hu60 hr))) s_ne (de_bltn ((call_show ga (hu60 hr)).or (call_showE ga (hu60 hr))) s_reprE Z.z_repr rfl (da_cons (DO.de (do_lst (da_cons (de_call (G_covered.mono (by decide)) ga hr T_covered.m T_covered.F.kp T_covered.b (takes_of rfl rfl rfl rfl) (da_cons (de_var 1) (da_cons (de_var 5) (da_cons (de_var 9) da_nil)))) (da_cons (de_callK (ks := ["places", "view", "link"]) (pm := [2, 1, 0]) (G_covered.mono (by decide)) ga hr T_covered.m T_covered.F.kp kb_covered_2_1_0 (dk_cons (de_var 9) (dk_cons (de_var 5) (dk_cons (de_var 1) dk_nil)))) da_nil)))) da_nil)) (de_bltn ((call_show ga (hu60 hr)).or (call_showE ga (hu60 hr))) s_reprE Z.z_repr rfl (da_cons (DO.de (do_lst (da_cons (de_var 7) (da_cons (de_var 7) da_nil)))) da_nil))) (dw_or1 (dt_cmp (op_ne.or (op_neD (hu60 hr))) s_ne (de_bltn ((call_show ga (hu60 hr)).or (call_showE ga (hu60 hr))) s_reprE Z.z_repr rfl (da_cons (de_var 9) da_nil)) (de_var 6))))) (dss_one (ds_ret de_bl)) dss_nil) (dss_one (ds_for PassesOwn.leaving rfl (di_seq (DO.de (do_lst (da_cons (de_var 5) (da_cons (de_var 7) da_nil))))) (dg_name 11 sc__law_right.nd) (dss_one (ds_if (dt_cmp (op_ne.or (op_neD (hu60 hr))) s_ne (de_bltn ((call_show ga (hu60 hr)).or (call_showE ga (hu60 hr))) s_reprE Z.z_repr rfl (da_cons (DO.de (do_lst (da_cons (de_call (G_looks_so.mono (by decide)) ga hr T_looks_so.m T_looks_so.F.kp T_looks_so.b (takes_of rfl rfl rfl rfl) (da_cons (de_var 1) (da_cons (de_var 2) (da_cons (de_var 11) da_nil)))) (da_cons (de_callK (ks := ["view", "contents", "link"]) (pm := [2, 1, 0]) (G_looks_so.mono (by decide)) ga hr T_looks_so.m T_looks_so.F.kp kb_looks_so_2_1_0 (dk_cons (de_var 11) (dk_cons (de_var 2) (dk_cons (de_var 1) dk_nil)))) da_nil)))) da_nil)) (de_bltn ((call_show ga (hu60 hr)).or (call_showE ga (hu60 hr))) s_reprE Z.z_repr rfl (da_cons (de_op op_mulD s_mul (DO.de (do_lst (da_cons (de_call (G__law_looks.mono (by decide)) ga hr T__law_looks.m T__law_looks.F.kp T__law_looks.b (takes_of rfl rfl rfl rfl) (da_cons (de_var 2) (da_cons (de_var 11) da_nil))) da_nil))) de_int) da_nil))) (dss_one (ds_ret de_bl)) dss_nil))))))) (dss_one (ds_ret (de_cmp (op_eq.or (op_eqD (hu60 hr))) s_eq (de_bltn ((call_show ga (hu60 hr)).or (call_showE ga (hu60 hr))) s_reprE Z.z_repr rfl (da_cons (DO.de (do_lst (da_cons (de_var 1) (da_cons (de_var 2) (da_cons (de_var 3) da_nil))))) da_nil)) (de_var 4)))))))))))))
theorem ok__law_cell (T__law_cell : TopF K mg "_law_cell" s__law_cell ["_law_script", "_law_index"]) (Z : Zs mg) : FnG P w K mg base (0 + 1) T__law_cell.f T__law_cell.d ["_law_script", "_law_index"] (SpP K mg false c__law_cell) := by
  show FnG P w K mg base (0 + 1) T__law_cell.f T__law_cell.d ["_law_script", "_law_index"] (SpP K mg false (defD N__law_cell 2 false den__law_cell))
  exact fn_pure (k := 0) (own := false) (O' := []) T__law_cell.F sc__law_cell fun cdv A outer s H E ga hr => by
    unfold den__law_cell
    exact (dss_cons (ds_if (dt_cmp op_lt s_lt (de_var 1) (de_bltn c_len s_len Z.z_len rfl (da_cons (de_var 0) da_nil))) (dss_one (ds_ret (de_ix ix_seq s_ix (de_var 0) (de_var 1)))) dss_nil) (dss_one (ds_ret (de_op op_mod s_mod (de_bltn (c_sum rfl) s_sum Z.z_sum rfl (da_cons (de_slice (de_var 0) dp_none (dp_some de_int)) da_nil)) de_int))))
theorem ok__law_generator (T__law_cell : TopF K mg "_law_cell" s__law_cell ["_law_script", "_law_index"]) (T__law_generator : TopF K mg "_law_generator" s__law_generator ["_law_script", "_law_index"]) (Z : Zs mg) : FnG P w K mg base (1 + 1) T__law_generator.f T__law_generator.d ["_law_script", "_law_index"] (SpP K mg true c__law_generator) := by
  have G__law_cell := ok__law_cell (P := P) (w := w) (base := base) T__law_cell Z
  show FnG P w K mg base (1 + 1) T__law_generator.f T__law_generator.d ["_law_script", "_law_index"] (SpP K mg true (defD N__law_generator 2 true den__law_generator))
  exact fn_pure (k := 1) (own := true) (O' := []) T__law_generator.F sc__law_generator fun cdv A outer s H E ga hr => by
    unfold den__law_generator
    exact (dss_cons (ds_set 2 sc__law_generator.nd (de_call (G__law_cell.mono (by decide)) ga hr T__law_cell.m T__law_cell.F.kp T__law_cell.b (takes_of rfl rfl rfl rfl) (da_cons (de_var 0) (da_cons (de_var 1) da_nil)))) (dss_one (ds_retO (do_lst (da_cons (de_op op_mod s_mod (de_btype call_int1 s_int Z.z_int rfl (da_cons (de_bltn (call_max2 rfl) s_max Z.z_max rfl (da_cons (de_op op_sub s_sub (de_var 2) (de_op op_powW s_pow de_int de_int)) (da_cons de_int da_nil))) da_nil)) (de_op op_powW s_pow (de_op op_powW s_pow de_int de_int) de_int)) (da_cons (de_op op_mod s_mod (de_btype call_int1 s_int Z.z_int rfl (da_cons (de_var 2) da_nil)) de_int) (da_cons (de_op op_mulD s_mul de_int (de_var 1)) da_nil)))))))
theorem ok_law (T__law_hash : TopF K mg "_law_hash" s__law_hash ["_law_seed", "_law_index"]) (T__law_random : TopF K mg "_law_random" s__law_random ["_law_generator_here", "_law_bound"]) (T__law_link : TopF K mg "_law_link" s__law_link ["_law_generator_here", "_law_most"]) (T__law_counts : TopF K mg "_law_counts" s__law_counts ["_law_generator_here", "_law_most"]) (T__law_look : TopF K mg "_law_look" s__law_look ["_law_generator_here", "_law_link_told"]) (T__law_contents : TopF K mg "_law_contents" s__law_contents ["_law_generator_here", "_law_link_told"]) (T__law_odd : TopF K mg "_law_odd" s__law_odd ["_law_generator_here", "_law_link_told", "_law_look_told"]) (T__law_pair : TopF K mg "_law_pair" s__law_pair ["_law_some", "_law_most"]) (T__law_two : TopF K mg "_law_two" s__law_two ["_law_some", "_law_most"]) (T__law_is_view : TopF K mg "_law_is_view" s__law_is_view ["_law_link_told", "_law_some"]) (T_is_tuple_of : TopF K mg "is_tuple_of" s_is_tuple_of ["value", "size"]) (T_is_whole : TopF K mg "is_whole" s_is_whole ["value"]) (T_is_count : TopF K mg "is_count" s_is_count ["value"]) (T_is_link : TopF K mg "is_link" s_is_link ["value"]) (T_need_link : TopF K mg "need_link" s_need_link ["link"]) (T_is_bit : TopF K mg "is_bit" s_is_bit ["value"]) (T_is_sender : TopF K mg "is_sender" s_is_sender ["link", "value"]) (T_is_seen_receiver : TopF K mg "is_seen_receiver" s_is_seen_receiver ["link", "value"]) (T_are_counts : TopF K mg "are_counts" s_are_counts ["value", "size", "most"]) (T_is_view_of : TopF K mg "is_view_of" s_is_view_of ["link", "value"]) (T_is_view : TopF K mg "is_view" s_is_view ["link", "value"]) (T__law_seen : TopF K mg "_law_seen" s__law_seen ["_law_here"]) (T_is_lot : TopF K mg "is_lot" s_is_lot ["link", "unlike", "value"]) (T_is_receiver : TopF K mg "is_receiver" s_is_receiver ["link", "sent", "value"]) (T_fits_link : TopF K mg "fits_link" s_fits_link ["link", "value"]) (T_need_contents : TopF K mg "need_contents" s_need_contents ["link", "contents"]) (T_seen_of : TopF K mg "seen_of" s_seen_of ["contents"]) (T_view_of : TopF K mg "view_of" s_view_of ["link", "contents"]) (T_need_view : TopF K mg "need_view" s_need_view ["link", "view"]) (T_are_places : TopF K mg "are_places" s_are_places ["value"]) (T_covered : TopF K mg "covered" s_covered ["link", "view", "places"]) (T_fits_view : TopF K mg "fits_view" s_fits_view ["contents", "view"]) (T_looks_so : TopF K mg "looks_so" s_looks_so ["link", "contents", "view"]) (T__law_looks : TopF K mg "_law_looks" s__law_looks ["_law_here", "_law_look_told"]) (T__law_right : TopF K mg "_law_right" s__law_right ["_law_generator_here"]) (T__law_cell : TopF K mg "_law_cell" s__law_cell ["_law_script", "_law_index"]) (T__law_generator : TopF K mg "_law_generator" s__law_generator ["_law_script", "_law_index"]) (T_law : TopF K mg "law" s_law ["_law_script"]) (kb_covered_2_1_0 : KwBinds K T_covered.d ["link", "view", "places"] ["places", "view", "link"] [2, 1, 0]) (kb_is_view_1_0 : KwBinds K T_is_view.d ["link", "value"] ["value", "link"] [1, 0]) (kb_looks_so_2_1_0 : KwBinds K T_looks_so.d ["link", "contents", "view"] ["view", "contents", "link"] [2, 1, 0]) (kb_view_of_1_0 : KwBinds K T_view_of.d ["link", "contents"] ["contents", "link"] [1, 0]) (Z : Zs mg) : FnG P w K mg base (8 + 1) T_law.f T_law.d ["_law_script"] (SpP K mg false c_law) := by
  have G__law_right := ok__law_right (P := P) (w := w) (base := base) T__law_hash T__law_random T__law_link T__law_counts T__law_look T__law_contents T__law_odd T__law_pair T__law_two T__law_is_view T_is_tuple_of T_is_whole T_is_count T_is_link T_need_link T_is_bit T_is_sender T_is_seen_receiver T_are_counts T_is_view_of T_is_view T__law_seen T_is_lot T_is_receiver T_fits_link T_need_contents T_seen_of T_view_of T_need_view T_are_places T_covered T_fits_view T_looks_so T__law_looks T__law_right kb_covered_2_1_0 kb_is_view_1_0 kb_looks_so_2_1_0 kb_view_of_1_0 Z
  have G__law_generator := ok__law_generator (P := P) (w := w) (base := base) T__law_cell T__law_generator Z
  have G_looks_so := ok_looks_so (P := P) (w := w) (base := base) T_is_tuple_of T_is_whole T_is_count T_is_link T_need_link T_is_bit T_is_sender T_is_lot T_is_receiver T_are_counts T_fits_link T_need_contents T_is_seen_receiver T_is_view_of T_need_view T_seen_of T_fits_view T_looks_so Z
  have G_covered := ok_covered (P := P) (w := w) (base := base) T_is_tuple_of T_is_whole T_is_count T_is_link T_need_link T_is_bit T_is_sender T_is_seen_receiver T_are_counts T_is_view_of T_need_view T_are_places T_covered Z
  have G_view_of := ok_view_of (P := P) (w := w) (base := base) T_is_tuple_of T_is_whole T_is_count T_is_link T_need_link T_is_bit T_is_sender T_is_lot T_is_receiver T_are_counts T_fits_link T_need_contents T_seen_of T_view_of Z
  have G_is_view := ok_is_view (P := P) (w := w) (base := base) T_is_tuple_of T_is_whole T_is_count T_is_link T_need_link T_is_bit T_is_sender T_is_seen_receiver T_are_counts T_is_view_of T_is_view Z
  exact fn_pure (k := 8) (own := false) (O' := []) T_law.F sc_law fun cdv A outer s H E ga hr => by
    unfold den_law
    exact (dss_cons (ds_for PassesOwn.leaving rfl (di_rng1 Z.z_range (da_cons de_int da_nil)) (dg_name 1 sc_law.nd) (dss_one (ds_if (dt_not (dt_tru (de_callN (G__law_right.mono (by decide)) ga hr T__law_right.m T__law_right.F.kp T__law_right.b (takes_of rfl rfl rfl rfl) (do_call (G__law_generator.mono (by decide)) ga hr T__law_generator.m T__law_generator.F.kp T__law_generator.b (takes_of rfl rfl rfl rfl) (da_cons (de_var 0) (da_cons (de_var 1) da_nil))) da_nil))) (dss_one (ds_ret de_bl)) dss_nil))) (dss_cons (ds_set 2 sc_law.nd (de_tup (da_cons (de_tup (da_cons de_int (da_cons de_int da_nil))) (da_cons (de_tup (da_cons de_int (da_cons (de_tup (da_cons de_str (da_cons de_int da_nil))) (da_cons de_bl da_nil)))) (da_cons (de_tup (da_cons de_int (da_cons de_int (da_cons de_int da_nil)))) (da_cons (de_tup (da_cons de_int (da_cons de_int da_nil))) da_nil)))))) (dss_cons (ds_set 3 sc_law.nd (DO.de (do_lst (da_cons (de_call (G_view_of.mono (by decide)) ga hr T_view_of.m T_view_of.F.kp T_view_of.b (takes_of rfl rfl rfl rfl) (da_cons (de_tup (da_cons de_int (da_cons de_int (da_cons de_int (da_cons de_int da_nil))))) (da_cons (de_var 2) da_nil))) (da_cons (de_call (G_covered.mono (by decide)) ga hr T_covered.m T_covered.F.kp T_covered.b (takes_of rfl rfl rfl rfl) (da_cons (de_tup (da_cons de_int (da_cons de_int (da_cons de_int (da_cons de_int da_nil))))) (da_cons (de_call (G_view_of.mono (by decide)) ga hr T_view_of.m T_view_of.F.kp T_view_of.b (takes_of rfl rfl rfl rfl) (da_cons (de_tup (da_cons de_int (da_cons de_int (da_cons de_int (da_cons de_int da_nil))))) (da_cons (de_var 2) da_nil))) (da_cons (DO.de (do_lst (da_cons de_int (da_cons de_int da_nil)))) da_nil)))) (da_cons (de_call (G_looks_so.mono (by decide)) ga hr T_looks_so.m T_looks_so.F.kp T_looks_so.b (takes_of rfl rfl rfl rfl) (da_cons (de_tup (da_cons de_int (da_cons de_int (da_cons de_int (da_cons de_int da_nil))))) (da_cons (de_var 2) (da_cons (de_tup (da_cons de_non (da_cons (de_tup (da_cons de_int (da_cons de_int da_nil))) (da_cons de_non (da_cons (de_tup (da_cons de_int (da_cons de_int da_nil))) da_nil))))) da_nil)))) da_nil)))))) (dss_cons (ds_set 3 sc_law.nd (de_op op_addD s_add (de_var 3) (DO.de (do_lst (da_cons (de_call (G_is_view.mono (by decide)) ga hr T_is_view.m T_is_view.F.kp T_is_view.b (takes_of rfl rfl rfl rfl) (da_cons (de_tup (da_cons de_int (da_cons de_int (da_cons de_int (da_cons de_int da_nil))))) (da_cons (de_tup (da_cons de_non (da_cons de_non (da_cons de_non (da_cons de_non da_nil))))) da_nil))) (da_cons (de_call (G_is_view.mono (by decide)) ga hr T_is_view.m T_is_view.F.kp T_is_view.b (takes_of rfl rfl rfl rfl) (da_cons (de_tup (da_cons de_int (da_cons de_int (da_cons de_int (da_cons de_int da_nil))))) (da_cons (de_tup (da_cons (de_tup (da_cons de_int (da_cons de_int da_nil))) (da_cons de_non (da_cons de_non (da_cons de_non da_nil))))) da_nil))) (da_cons (de_call (G_is_view.mono (by decide)) ga hr T_is_view.m T_is_view.F.kp T_is_view.b (takes_of rfl rfl rfl rfl) (da_cons (de_tup (da_cons de_int (da_cons de_int (da_cons de_int (da_cons de_int da_nil))))) (da_cons (de_tup (da_cons de_non (da_cons (de_tup (da_cons de_int (da_cons de_int da_nil))) (da_cons (de_tup (da_cons de_int (da_cons de_int da_nil))) (da_cons de_non da_nil))))) da_nil))) da_nil))))))) (dss_one (ds_ret (de_cmp (op_eq.or (op_eqD (hu60 hr))) s_eq (de_bltn ((call_show ga (hu60 hr)).or (call_showE ga (hu60 hr))) s_reprE Z.z_repr rfl (da_cons (de_var 3) da_nil)) (de_bltn ((call_show ga (hu60 hr)).or (call_showE ga (hu60 hr))) s_reprE Z.z_repr rfl (da_cons (DO.de (do_lst (da_cons (de_tup (da_cons (de_tup (da_cons de_int (da_cons de_int da_nil))) (da_cons (de_tup (da_cons de_int (da_cons de_int da_nil))) (da_cons (de_tup (da_cons de_int (da_cons de_int da_nil))) (da_cons (de_tup (da_cons de_int (da_cons de_int da_nil))) da_nil))))) (da_cons (de_tup (da_cons (de_tup (da_cons de_int (da_cons de_int da_nil))) (da_cons de_non (da_cons de_non (da_cons (de_tup (da_cons de_int (da_cons de_int da_nil))) da_nil))))) (da_cons de_bl (da_cons de_bl (da_cons de_bl (da_cons de_bl da_nil)))))))) da_nil)))))))))
end
end K45


namespace DL
open PySem L2
/-! facts about data that all laws use -/
@[simp] theorem kb1 : kitB "int" "int" = some true := by decide
@[simp] theorem kb2 : kitB "int" "bool" = some false := by decide
@[simp] theorem kb3 : kitB "tuple" "tuple" = some true := by decide
@[simp] theorem kb4 : kitB "bool" "bool" = some true := by decide
@[simp] theorem kb5 : kitB "bool" "int" = some true := by decide
@[simp] theorem kb6 : kitB "NoneType" "tuple" = some false := by decide
@[simp] theorem kb7 : kitB "str" "str" = some true := by decide
@[simp] theorem kb8 : kitB "int" "str" = some false := by decide
@[simp] theorem kb9 : kitB "list" "list" = some true := by decide
@[simp] theorem kb10 : kitB "tuple" "list" = some false := by decide
@[simp] theorem kb11 : kitB "list" "tuple" = some false := by decide
@[simp] theorem atI_tup0 {α} (a : α) (r : List α) : atI (a :: r) 0 = some a := by simp [atI, ixN]
@[simp] theorem atI_tup1 {α} (a b : α) (r : List α) : atI (a :: b :: r) 1 = some b := by
  have h : (1 : Int) < (r.length : Int) + 1 + 1 := by omega
  simp [atI, ixN, h]
@[simp] theorem atI_tup2 {α} (a b c : α) (r : List α) : atI (a :: b :: c :: r) 2 = some c := by
  have h : (2 : Int) < (r.length : Int) + 1 + 1 + 1 := by omega
  simp [atI, ixN, h]
@[simp] theorem atI_tup3 {α} (a b c d : α) (r : List α) : atI (a :: b :: c :: d :: r) 3 = some d := by
  have h : (3 : Int) < (r.length : Int) + 1 + 1 + 1 + 1 := by omega
  simp [atI, ixN, h]
@[simp] theorem log2_0 : Nat.log2 0 = 0 := by decide
@[simp] theorem log2_1 : Nat.log2 1 = 0 := by decide
@[simp] theorem log2_2 : Nat.log2 2 = 1 := by decide
theorem log2_le {n k : Nat} (h : n < 2 ^ (k + 1)) : n.log2 ≤ k := by
  by_cases h0 : n = 0
  · subst h0; simp
  · have := (Nat.log2_lt h0).mpr h
    omega
theorem mul_ok {i j : Int} (hi : i.natAbs < 1606938044258990275541962092341162602522202993782792835301376) (hj : j.natAbs < 1606938044258990275541962092341162602522202993782792835301376) : mulD (.int i) (.int j) = some (.int (i * j)) := by
  have h1 : i.natAbs.log2 ≤ 199 := log2_le (by omega)
  have h2 : j.natAbs.log2 ≤ 199 := log2_le (by omega)
  simp only [mulD]
  rw [if_pos (by omega)]
@[simp] theorem atI_set0 {α} (a b : α) (r : List α) : (a :: r).set 0 b = b :: r := rfl
theorem seq_nx {g1 g2 : DL.Env → Out} {ρ ρ' : DL.Env} (h : g1 ρ = .nx ρ') : sCons g1 g2 ρ = g2 ρ' := by
  simp only [sCons, oSeq, h]
theorem seq_rt {g1 g2 : DL.Env → Out} {ρ ρ' : DL.Env} {d : D} (h : g1 ρ = .rt d ρ') : sCons g1 g2 ρ = .rt d ρ' := by
  simp only [sCons, oSeq, h]
theorem for_at {fi : DL.Env → R (List D)} {set : D → DL.Env → Option DL.Env} {g : DL.Env → Out} {ρ ρ1 : DL.Env} {ds : List D} {o : Out} (h : fi ρ = .ok ds ρ1) (h2 : forL set g ds ρ1 = o) : sFor fi set g ρ = o := by
  simp only [sFor, rOut, h, h2]
theorem for_cons {set : D → DL.Env → Option DL.Env} {g : DL.Env → Out} {d : D} {ds : List D} {ρ ρ1 ρ2 : DL.Env} (h1 : set d ρ = some ρ1) (h2 : g ρ1 = .nx ρ2) : forL set g (d :: ds) ρ = forL set g ds ρ2 := by
  simp only [forL, h1, h2]
theorem gen_at {N : List Str} {n : Nat} {own : Bool} {g : DL.Env → Out} {ds : List D} {o : Out} (hl : ds.length = n) (h : g (startD N ds) = o) : genD N n own g ds = outG own o := by
  simp only [genD, hl, h, if_true]
theorem def_at {N : List Str} {n : Nat} {own : Bool} {g : DL.Env → Out} {ds : List D} {o : Out} (hl : ds.length = n) (h : g (startD N ds) = o) : defD N n own g ds = outP own o := by
  simp only [defD, hl, h, if_true]
theorem rg1 : rng1D [.int 1] = some [.int 0] := rfl
theorem rg2 : rng1D [.int 2] = some [.int 0, .int 1] := rfl
theorem rg3 : rng1D [.int 3] = some [.int 0, .int 1, .int 2] := rfl
theorem rg4 : rng1D [.int 4] = some [.int 0, .int 1, .int 2, .int 3] := rfl
theorem rg6 : rng1D [.int 6] = some [.int 0, .int 1, .int 2, .int 3, .int 4, .int 5] := rfl
theorem rg8 : rng1D [.int 8] = some [.int 0, .int 1, .int 2, .int 3, .int 4, .int 5, .int 6, .int 7] := rfl
theorem rng_ok (k : Nat) (hk : k ≤ 1000000) : rng1D [.int ((k : Nat) : Int)] = some (rangeD 0 k) := by
  have h2 : -(2 ^ 62 : Int) ≤ (k : Int) ∧ (k : Int) < 2 ^ 62 := by omega
  simp only [rng1D]
  rw [if_pos h2, Int.toNat_natCast]
theorem pow9 : powD (.int 10) (.int 9) = some (.int 1000000000) := rfl
theorem pow12 : powD (.int 10) (.int 12) = some (.int 1000000000000) := rfl
theorem pow18 : powD (.int 10) (.int 18) = some (.int 1000000000000000000) := rfl
theorem pow28 : powD (.int 10) (.int 28) = some (.int 10000000000000000000000000000) := rfl
theorem okI {n : Nat} {i : Int} (h : i.natAbs < 1606938044258990275541962092341162602522202993782792835301376) : okN n (.int i) = true := by
  have h1 : i.natAbs.log2 ≤ 199 := log2_le (by omega)
  unfold okN
  exact decide_eq_true (by omega)
theorem tup_ok (k : Nat) (xs : List D) : okN (k + 1) (.tup xs) = okNs k xs := by simp only [okN]
theorem lst_ok (k : Nat) (xs : List D) : okN (k + 1) (.lst xs) = okNs k xs := by simp only [okN]
theorem cons_ok (k : Nat) (d : D) (r : List D) : okNs k (d :: r) = (okN k d && okNs k r) := by simp only [okNs]
theorem nil_ok (k : Nat) : okNs k [] = true := by simp only [okNs]
theorem bl_ok (k : Nat) (b : Bool) : okN k (.bl b) = true := rfl
theorem non_ok (k : Nat) : okN k .non = true := rfl
theorem str_ok (k : Nat) (s : Str) : okN k (.str s) = strC s := by cases k <;> rfl
theorem neI (i j : Int) : neD (.int i) (.int j) = some (.bl (!(i == j))) := rfl
theorem nil_eq : eqD (.lst []) (.lst []) = some (.bl true) := rfl
/-- a comprehension over encoded things -/
theorem lcL_filter {α : Type} {enc out : α → D} {tb : α → Bool} {set : D → DL.Env → Option DL.Env} {t : DL.Env → R Bool} {f : DL.Env → R D} {vs : List Nat} (I : DL.Env → Prop) :
    ∀ (as : List α), (∀ a, a ∈ as → ∀ ρ, I ρ → ∃ ρ1, set (enc a) (wipeD ρ vs) = some ρ1 ∧ t ρ1 = .ok (tb a) ρ1 ∧ (tb a = true → f ρ1 = .ok (out a) ρ1) ∧ I ρ1) →
    ∀ (acc : List D) (ρ : DL.Env), I ρ → acc.length + as.length ≤ 100000 → ∃ ρ', lcL set t f vs (as.map enc) acc ρ = .ok (acc ++ (as.filter tb).map out) ρ' ∧ I ρ'
  | [], _, acc, ρ, hI, _ => ⟨ρ, by simp, hI⟩
  | a :: as, hs, acc, ρ, hI, hl => by
    obtain ⟨ρ1, h1, h2, h3, h4⟩ := hs a List.mem_cons_self ρ hI
    have hs' := fun b hb => hs b (List.mem_cons_of_mem a hb)
    rw [List.length_cons] at hl
    cases hb : tb a with
    | false =>
      obtain ⟨ρ', e, i⟩ := lcL_filter I as hs' acc ρ1 h4 (by omega)
      rw [hb] at h2
      refine ⟨ρ', ?_, i⟩
      simp only [List.map_cons, lcL, h1, h2, List.filter_cons, hb, Bool.false_eq_true, if_false]
      exact e
    | true =>
      obtain ⟨ρ', e, i⟩ := lcL_filter I as hs' (acc ++ [out a]) ρ1 h4 (by rw [List.length_append, List.length_singleton]; omega)
      rw [hb] at h2
      refine ⟨ρ', ?_, i⟩
      have hl2 : acc.length < 100000 := by omega
      simp only [List.map_cons, lcL, h1, h2, h3 hb, hl2, List.filter_cons, hb, if_true]
      try rw [e]
      simp only [List.append_assoc, List.singleton_append]
/-- a loop over encoded things that goes on to its end -/
theorem forL_inv {α : Type} {enc : α → D} {set : D → DL.Env → Option DL.Env} {g : DL.Env → Out} (I : List α → DL.Env → Prop) :
    ∀ (as : List α), ∀ (pre : List α) (ρ : DL.Env), (∀ a p ρ, a ∈ as → I p ρ → ∃ ρ1 ρ2, set (enc a) ρ = some ρ1 ∧ (g ρ1 = .nx ρ2 ∨ g ρ1 = .ct ρ2) ∧ I (p ++ [a]) ρ2) → I pre ρ → ∃ ρ', forL set g (as.map enc) ρ = .nx ρ' ∧ I (pre ++ as) ρ'
  | [], pre, ρ, _, hI => ⟨ρ, rfl, by rw [List.append_nil]; exact hI⟩
  | a :: as, pre, ρ, hs, hI => by
    obtain ⟨ρ1, ρ2, h1, h2, h3⟩ := hs a pre ρ List.mem_cons_self hI
    obtain ⟨ρ', e, i⟩ := forL_inv I as (pre ++ [a]) ρ2 (fun b p ρ hb => hs b p ρ (List.mem_cons_of_mem a hb)) h3
    refine ⟨ρ', ?_, by rw [List.append_assoc, List.singleton_append] at i; exact i⟩
    rcases h2 with h2 | h2
    · simp only [List.map_cons, forL, h1, h2]; exact e
    · simp only [List.map_cons, forL, h1, h2]; exact e
end DL


namespace DL
open PySem L2
/-! words are told apart -/
@[simp] theorem sc_send : strC (Str.ofString "send") = true := by decide
@[simp] theorem sc_drop : strC (Str.ofString "drop") = true := by decide
@[simp] theorem sc_bring : strC (Str.ofString "bring") = true := by decide
@[simp] theorem sc_miss : strC (Str.ofString "miss") = true := by decide
@[simp] theorem sc_hear : strC (Str.ofString "hear") = true := by decide
@[simp] theorem sc_new : strC (Str.ofString "new") = true := by decide
@[simp] theorem sc_old : strC (Str.ofString "old") = true := by decide
@[simp] theorem sc_zero : strC (Str.ofString "zero") = true := by decide
@[simp] theorem sc_one : strC (Str.ofString "one") = true := by decide
@[simp] theorem sc_double : strC (Str.ofString "double") = true := by decide
@[simp] theorem sc_repeat : strC (Str.ofString "repeat") = true := by decide
@[simp] theorem sc_lost : strC (Str.ofString "lost") = true := by decide
@[simp] theorem sc_made : strC (Str.ofString "made") = true := by decide
@[simp] theorem sc_twice : strC (Str.ofString "twice") = true := by decide
@[simp] theorem ne_send_drop : (Str.ofString "send" = Str.ofString "drop") = False := by decide
@[simp] theorem ne_send_bring : (Str.ofString "send" = Str.ofString "bring") = False := by decide
@[simp] theorem ne_send_miss : (Str.ofString "send" = Str.ofString "miss") = False := by decide
@[simp] theorem ne_send_hear : (Str.ofString "send" = Str.ofString "hear") = False := by decide
@[simp] theorem ne_send_new : (Str.ofString "send" = Str.ofString "new") = False := by decide
@[simp] theorem ne_send_old : (Str.ofString "send" = Str.ofString "old") = False := by decide
@[simp] theorem ne_send_zero : (Str.ofString "send" = Str.ofString "zero") = False := by decide
@[simp] theorem ne_send_one : (Str.ofString "send" = Str.ofString "one") = False := by decide
@[simp] theorem ne_send_double : (Str.ofString "send" = Str.ofString "double") = False := by decide
@[simp] theorem ne_send_repeat : (Str.ofString "send" = Str.ofString "repeat") = False := by decide
@[simp] theorem ne_send_lost : (Str.ofString "send" = Str.ofString "lost") = False := by decide
@[simp] theorem ne_send_made : (Str.ofString "send" = Str.ofString "made") = False := by decide
@[simp] theorem ne_send_twice : (Str.ofString "send" = Str.ofString "twice") = False := by decide
@[simp] theorem ne_drop_send : (Str.ofString "drop" = Str.ofString "send") = False := by decide
@[simp] theorem ne_drop_bring : (Str.ofString "drop" = Str.ofString "bring") = False := by decide
@[simp] theorem ne_drop_miss : (Str.ofString "drop" = Str.ofString "miss") = False := by decide
@[simp] theorem ne_drop_hear : (Str.ofString "drop" = Str.ofString "hear") = False := by decide
@[simp] theorem ne_drop_new : (Str.ofString "drop" = Str.ofString "new") = False := by decide
@[simp] theorem ne_drop_old : (Str.ofString "drop" = Str.ofString "old") = False := by decide
@[simp] theorem ne_drop_zero : (Str.ofString "drop" = Str.ofString "zero") = False := by decide
@[simp] theorem ne_drop_one : (Str.ofString "drop" = Str.ofString "one") = False := by decide
@[simp] theorem ne_drop_double : (Str.ofString "drop" = Str.ofString "double") = False := by decide
@[simp] theorem ne_drop_repeat : (Str.ofString "drop" = Str.ofString "repeat") = False := by decide
@[simp] theorem ne_drop_lost : (Str.ofString "drop" = Str.ofString "lost") = False := by decide
@[simp] theorem ne_drop_made : (Str.ofString "drop" = Str.ofString "made") = False := by decide
@[simp] theorem ne_drop_twice : (Str.ofString "drop" = Str.ofString "twice") = False := by decide
@[simp] theorem ne_bring_send : (Str.ofString "bring" = Str.ofString "send") = False := by decide
@[simp] theorem ne_bring_drop : (Str.ofString "bring" = Str.ofString "drop") = False := by decide
@[simp] theorem ne_bring_miss : (Str.ofString "bring" = Str.ofString "miss") = False := by decide
@[simp] theorem ne_bring_hear : (Str.ofString "bring" = Str.ofString "hear") = False := by decide
@[simp] theorem ne_bring_new : (Str.ofString "bring" = Str.ofString "new") = False := by decide
@[simp] theorem ne_bring_old : (Str.ofString "bring" = Str.ofString "old") = False := by decide
@[simp] theorem ne_bring_zero : (Str.ofString "bring" = Str.ofString "zero") = False := by decide
@[simp] theorem ne_bring_one : (Str.ofString "bring" = Str.ofString "one") = False := by decide
@[simp] theorem ne_bring_double : (Str.ofString "bring" = Str.ofString "double") = False := by decide
@[simp] theorem ne_bring_repeat : (Str.ofString "bring" = Str.ofString "repeat") = False := by decide
@[simp] theorem ne_bring_lost : (Str.ofString "bring" = Str.ofString "lost") = False := by decide
@[simp] theorem ne_bring_made : (Str.ofString "bring" = Str.ofString "made") = False := by decide
@[simp] theorem ne_bring_twice : (Str.ofString "bring" = Str.ofString "twice") = False := by decide
@[simp] theorem ne_miss_send : (Str.ofString "miss" = Str.ofString "send") = False := by decide
@[simp] theorem ne_miss_drop : (Str.ofString "miss" = Str.ofString "drop") = False := by decide
@[simp] theorem ne_miss_bring : (Str.ofString "miss" = Str.ofString "bring") = False := by decide
@[simp] theorem ne_miss_hear : (Str.ofString "miss" = Str.ofString "hear") = False := by decide
@[simp] theorem ne_miss_new : (Str.ofString "miss" = Str.ofString "new") = False := by decide
@[simp] theorem ne_miss_old : (Str.ofString "miss" = Str.ofString "old") = False := by decide
@[simp] theorem ne_miss_zero : (Str.ofString "miss" = Str.ofString "zero") = False := by decide
@[simp] theorem ne_miss_one : (Str.ofString "miss" = Str.ofString "one") = False := by decide
@[simp] theorem ne_miss_double : (Str.ofString "miss" = Str.ofString "double") = False := by decide
@[simp] theorem ne_miss_repeat : (Str.ofString "miss" = Str.ofString "repeat") = False := by decide
@[simp] theorem ne_miss_lost : (Str.ofString "miss" = Str.ofString "lost") = False := by decide
@[simp] theorem ne_miss_made : (Str.ofString "miss" = Str.ofString "made") = False := by decide
@[simp] theorem ne_miss_twice : (Str.ofString "miss" = Str.ofString "twice") = False := by decide
@[simp] theorem ne_hear_send : (Str.ofString "hear" = Str.ofString "send") = False := by decide
@[simp] theorem ne_hear_drop : (Str.ofString "hear" = Str.ofString "drop") = False := by decide
@[simp] theorem ne_hear_bring : (Str.ofString "hear" = Str.ofString "bring") = False := by decide
@[simp] theorem ne_hear_miss : (Str.ofString "hear" = Str.ofString "miss") = False := by decide
@[simp] theorem ne_hear_new : (Str.ofString "hear" = Str.ofString "new") = False := by decide
@[simp] theorem ne_hear_old : (Str.ofString "hear" = Str.ofString "old") = False := by decide
@[simp] theorem ne_hear_zero : (Str.ofString "hear" = Str.ofString "zero") = False := by decide
@[simp] theorem ne_hear_one : (Str.ofString "hear" = Str.ofString "one") = False := by decide
@[simp] theorem ne_hear_double : (Str.ofString "hear" = Str.ofString "double") = False := by decide
@[simp] theorem ne_hear_repeat : (Str.ofString "hear" = Str.ofString "repeat") = False := by decide
@[simp] theorem ne_hear_lost : (Str.ofString "hear" = Str.ofString "lost") = False := by decide
@[simp] theorem ne_hear_made : (Str.ofString "hear" = Str.ofString "made") = False := by decide
@[simp] theorem ne_hear_twice : (Str.ofString "hear" = Str.ofString "twice") = False := by decide
@[simp] theorem ne_new_send : (Str.ofString "new" = Str.ofString "send") = False := by decide
@[simp] theorem ne_new_drop : (Str.ofString "new" = Str.ofString "drop") = False := by decide
@[simp] theorem ne_new_bring : (Str.ofString "new" = Str.ofString "bring") = False := by decide
@[simp] theorem ne_new_miss : (Str.ofString "new" = Str.ofString "miss") = False := by decide
@[simp] theorem ne_new_hear : (Str.ofString "new" = Str.ofString "hear") = False := by decide
@[simp] theorem ne_new_old : (Str.ofString "new" = Str.ofString "old") = False := by decide
@[simp] theorem ne_new_zero : (Str.ofString "new" = Str.ofString "zero") = False := by decide
@[simp] theorem ne_new_one : (Str.ofString "new" = Str.ofString "one") = False := by decide
@[simp] theorem ne_new_double : (Str.ofString "new" = Str.ofString "double") = False := by decide
@[simp] theorem ne_new_repeat : (Str.ofString "new" = Str.ofString "repeat") = False := by decide
@[simp] theorem ne_new_lost : (Str.ofString "new" = Str.ofString "lost") = False := by decide
@[simp] theorem ne_new_made : (Str.ofString "new" = Str.ofString "made") = False := by decide
@[simp] theorem ne_new_twice : (Str.ofString "new" = Str.ofString "twice") = False := by decide
@[simp] theorem ne_old_send : (Str.ofString "old" = Str.ofString "send") = False := by decide
@[simp] theorem ne_old_drop : (Str.ofString "old" = Str.ofString "drop") = False := by decide
@[simp] theorem ne_old_bring : (Str.ofString "old" = Str.ofString "bring") = False := by decide
@[simp] theorem ne_old_miss : (Str.ofString "old" = Str.ofString "miss") = False := by decide
@[simp] theorem ne_old_hear : (Str.ofString "old" = Str.ofString "hear") = False := by decide
@[simp] theorem ne_old_new : (Str.ofString "old" = Str.ofString "new") = False := by decide
@[simp] theorem ne_old_zero : (Str.ofString "old" = Str.ofString "zero") = False := by decide
@[simp] theorem ne_old_one : (Str.ofString "old" = Str.ofString "one") = False := by decide
@[simp] theorem ne_old_double : (Str.ofString "old" = Str.ofString "double") = False := by decide
@[simp] theorem ne_old_repeat : (Str.ofString "old" = Str.ofString "repeat") = False := by decide
@[simp] theorem ne_old_lost : (Str.ofString "old" = Str.ofString "lost") = False := by decide
@[simp] theorem ne_old_made : (Str.ofString "old" = Str.ofString "made") = False := by decide
@[simp] theorem ne_old_twice : (Str.ofString "old" = Str.ofString "twice") = False := by decide
@[simp] theorem ne_zero_send : (Str.ofString "zero" = Str.ofString "send") = False := by decide
@[simp] theorem ne_zero_drop : (Str.ofString "zero" = Str.ofString "drop") = False := by decide
@[simp] theorem ne_zero_bring : (Str.ofString "zero" = Str.ofString "bring") = False := by decide
@[simp] theorem ne_zero_miss : (Str.ofString "zero" = Str.ofString "miss") = False := by decide
@[simp] theorem ne_zero_hear : (Str.ofString "zero" = Str.ofString "hear") = False := by decide
@[simp] theorem ne_zero_new : (Str.ofString "zero" = Str.ofString "new") = False := by decide
@[simp] theorem ne_zero_old : (Str.ofString "zero" = Str.ofString "old") = False := by decide
@[simp] theorem ne_zero_one : (Str.ofString "zero" = Str.ofString "one") = False := by decide
@[simp] theorem ne_zero_double : (Str.ofString "zero" = Str.ofString "double") = False := by decide
@[simp] theorem ne_zero_repeat : (Str.ofString "zero" = Str.ofString "repeat") = False := by decide
@[simp] theorem ne_zero_lost : (Str.ofString "zero" = Str.ofString "lost") = False := by decide
@[simp] theorem ne_zero_made : (Str.ofString "zero" = Str.ofString "made") = False := by decide
@[simp] theorem ne_zero_twice : (Str.ofString "zero" = Str.ofString "twice") = False := by decide
@[simp] theorem ne_one_send : (Str.ofString "one" = Str.ofString "send") = False := by decide
@[simp] theorem ne_one_drop : (Str.ofString "one" = Str.ofString "drop") = False := by decide
@[simp] theorem ne_one_bring : (Str.ofString "one" = Str.ofString "bring") = False := by decide
@[simp] theorem ne_one_miss : (Str.ofString "one" = Str.ofString "miss") = False := by decide
@[simp] theorem ne_one_hear : (Str.ofString "one" = Str.ofString "hear") = False := by decide
@[simp] theorem ne_one_new : (Str.ofString "one" = Str.ofString "new") = False := by decide
@[simp] theorem ne_one_old : (Str.ofString "one" = Str.ofString "old") = False := by decide
@[simp] theorem ne_one_zero : (Str.ofString "one" = Str.ofString "zero") = False := by decide
@[simp] theorem ne_one_double : (Str.ofString "one" = Str.ofString "double") = False := by decide
@[simp] theorem ne_one_repeat : (Str.ofString "one" = Str.ofString "repeat") = False := by decide
@[simp] theorem ne_one_lost : (Str.ofString "one" = Str.ofString "lost") = False := by decide
@[simp] theorem ne_one_made : (Str.ofString "one" = Str.ofString "made") = False := by decide
@[simp] theorem ne_one_twice : (Str.ofString "one" = Str.ofString "twice") = False := by decide
@[simp] theorem ne_double_send : (Str.ofString "double" = Str.ofString "send") = False := by decide
@[simp] theorem ne_double_drop : (Str.ofString "double" = Str.ofString "drop") = False := by decide
@[simp] theorem ne_double_bring : (Str.ofString "double" = Str.ofString "bring") = False := by decide
@[simp] theorem ne_double_miss : (Str.ofString "double" = Str.ofString "miss") = False := by decide
@[simp] theorem ne_double_hear : (Str.ofString "double" = Str.ofString "hear") = False := by decide
@[simp] theorem ne_double_new : (Str.ofString "double" = Str.ofString "new") = False := by decide
@[simp] theorem ne_double_old : (Str.ofString "double" = Str.ofString "old") = False := by decide
@[simp] theorem ne_double_zero : (Str.ofString "double" = Str.ofString "zero") = False := by decide
@[simp] theorem ne_double_one : (Str.ofString "double" = Str.ofString "one") = False := by decide
@[simp] theorem ne_double_repeat : (Str.ofString "double" = Str.ofString "repeat") = False := by decide
@[simp] theorem ne_double_lost : (Str.ofString "double" = Str.ofString "lost") = False := by decide
@[simp] theorem ne_double_made : (Str.ofString "double" = Str.ofString "made") = False := by decide
@[simp] theorem ne_double_twice : (Str.ofString "double" = Str.ofString "twice") = False := by decide
@[simp] theorem ne_repeat_send : (Str.ofString "repeat" = Str.ofString "send") = False := by decide
@[simp] theorem ne_repeat_drop : (Str.ofString "repeat" = Str.ofString "drop") = False := by decide
@[simp] theorem ne_repeat_bring : (Str.ofString "repeat" = Str.ofString "bring") = False := by decide
@[simp] theorem ne_repeat_miss : (Str.ofString "repeat" = Str.ofString "miss") = False := by decide
@[simp] theorem ne_repeat_hear : (Str.ofString "repeat" = Str.ofString "hear") = False := by decide
@[simp] theorem ne_repeat_new : (Str.ofString "repeat" = Str.ofString "new") = False := by decide
@[simp] theorem ne_repeat_old : (Str.ofString "repeat" = Str.ofString "old") = False := by decide
@[simp] theorem ne_repeat_zero : (Str.ofString "repeat" = Str.ofString "zero") = False := by decide
@[simp] theorem ne_repeat_one : (Str.ofString "repeat" = Str.ofString "one") = False := by decide
@[simp] theorem ne_repeat_double : (Str.ofString "repeat" = Str.ofString "double") = False := by decide
@[simp] theorem ne_repeat_lost : (Str.ofString "repeat" = Str.ofString "lost") = False := by decide
@[simp] theorem ne_repeat_made : (Str.ofString "repeat" = Str.ofString "made") = False := by decide
@[simp] theorem ne_repeat_twice : (Str.ofString "repeat" = Str.ofString "twice") = False := by decide
@[simp] theorem ne_lost_send : (Str.ofString "lost" = Str.ofString "send") = False := by decide
@[simp] theorem ne_lost_drop : (Str.ofString "lost" = Str.ofString "drop") = False := by decide
@[simp] theorem ne_lost_bring : (Str.ofString "lost" = Str.ofString "bring") = False := by decide
@[simp] theorem ne_lost_miss : (Str.ofString "lost" = Str.ofString "miss") = False := by decide
@[simp] theorem ne_lost_hear : (Str.ofString "lost" = Str.ofString "hear") = False := by decide
@[simp] theorem ne_lost_new : (Str.ofString "lost" = Str.ofString "new") = False := by decide
@[simp] theorem ne_lost_old : (Str.ofString "lost" = Str.ofString "old") = False := by decide
@[simp] theorem ne_lost_zero : (Str.ofString "lost" = Str.ofString "zero") = False := by decide
@[simp] theorem ne_lost_one : (Str.ofString "lost" = Str.ofString "one") = False := by decide
@[simp] theorem ne_lost_double : (Str.ofString "lost" = Str.ofString "double") = False := by decide
@[simp] theorem ne_lost_repeat : (Str.ofString "lost" = Str.ofString "repeat") = False := by decide
@[simp] theorem ne_lost_made : (Str.ofString "lost" = Str.ofString "made") = False := by decide
@[simp] theorem ne_lost_twice : (Str.ofString "lost" = Str.ofString "twice") = False := by decide
@[simp] theorem ne_made_send : (Str.ofString "made" = Str.ofString "send") = False := by decide
@[simp] theorem ne_made_drop : (Str.ofString "made" = Str.ofString "drop") = False := by decide
@[simp] theorem ne_made_bring : (Str.ofString "made" = Str.ofString "bring") = False := by decide
@[simp] theorem ne_made_miss : (Str.ofString "made" = Str.ofString "miss") = False := by decide
@[simp] theorem ne_made_hear : (Str.ofString "made" = Str.ofString "hear") = False := by decide
@[simp] theorem ne_made_new : (Str.ofString "made" = Str.ofString "new") = False := by decide
@[simp] theorem ne_made_old : (Str.ofString "made" = Str.ofString "old") = False := by decide
@[simp] theorem ne_made_zero : (Str.ofString "made" = Str.ofString "zero") = False := by decide
@[simp] theorem ne_made_one : (Str.ofString "made" = Str.ofString "one") = False := by decide
@[simp] theorem ne_made_double : (Str.ofString "made" = Str.ofString "double") = False := by decide
@[simp] theorem ne_made_repeat : (Str.ofString "made" = Str.ofString "repeat") = False := by decide
@[simp] theorem ne_made_lost : (Str.ofString "made" = Str.ofString "lost") = False := by decide
@[simp] theorem ne_made_twice : (Str.ofString "made" = Str.ofString "twice") = False := by decide
@[simp] theorem ne_twice_send : (Str.ofString "twice" = Str.ofString "send") = False := by decide
@[simp] theorem ne_twice_drop : (Str.ofString "twice" = Str.ofString "drop") = False := by decide
@[simp] theorem ne_twice_bring : (Str.ofString "twice" = Str.ofString "bring") = False := by decide
@[simp] theorem ne_twice_miss : (Str.ofString "twice" = Str.ofString "miss") = False := by decide
@[simp] theorem ne_twice_hear : (Str.ofString "twice" = Str.ofString "hear") = False := by decide
@[simp] theorem ne_twice_new : (Str.ofString "twice" = Str.ofString "new") = False := by decide
@[simp] theorem ne_twice_old : (Str.ofString "twice" = Str.ofString "old") = False := by decide
@[simp] theorem ne_twice_zero : (Str.ofString "twice" = Str.ofString "zero") = False := by decide
@[simp] theorem ne_twice_one : (Str.ofString "twice" = Str.ofString "one") = False := by decide
@[simp] theorem ne_twice_double : (Str.ofString "twice" = Str.ofString "double") = False := by decide
@[simp] theorem ne_twice_repeat : (Str.ofString "twice" = Str.ofString "repeat") = False := by decide
@[simp] theorem ne_twice_lost : (Str.ofString "twice" = Str.ofString "lost") = False := by decide
@[simp] theorem ne_twice_made : (Str.ofString "twice" = Str.ofString "made") = False := by decide
@[simp] theorem eqv_str (x y : Str) : (PyData.str x).eqv (PyData.str y) = decide (x = y) := by
  show (x == y) = _
  by_cases h : x = y
  · subst h; simp
  · rw [beq_eq_false_iff_ne.mpr h, decide_eq_false h]
@[simp] theorem eqv_int (x y : Int) : (PyData.int x).eqv (PyData.int y) = (x == y) := rfl
@[simp] theorem eqv_str_int (x : Str) (y : Int) : (PyData.str x).eqv (PyData.int y) = false := rfl
@[simp] theorem eqv_int_str (x : Str) (y : Int) : (PyData.int y).eqv (PyData.str x) = false := rfl
theorem inA_str (z : Str) (xs : List D) (h : strC z = true) (h2 : okNs 59 xs = true) : inA (.str z) (.tup xs) = some (.bl ((pyDs xs).any fun y => y.eqv (.str z))) := by
  have : okN 60 (.str z) = true := by rw [str_ok]; exact h
  simp only [inA, inAB, inBT, this, h2, Bool.and_self, if_true, pyD, Option.map_some]
theorem inA_strL (z : Str) (xs : List D) (h : strC z = true) (h2 : okNs 59 xs = true) : inA (.str z) (.lst xs) = some (.bl ((pyDs xs).any fun y => y.eqv (.str z))) := by
  have : okN 60 (.str z) = true := by rw [str_ok]; exact h
  simp only [inA, inAB, inB, this, h2, Bool.and_self, if_true, pyD, Option.map_some]
theorem inA_int (z : Int) (xs : List D) (h : okN 60 (.int z) = true) (h2 : okNs 59 xs = true) : inA (.int z) (.tup xs) = some (.bl ((pyDs xs).any fun y => y.eqv (.int z))) := by
  simp only [inA, inAB, inBT, h, h2, Bool.and_self, if_true, pyD, Option.map_some]
end DL


namespace PG
open DL PySem L2
@[simp] theorem whole_int (i : Int) : c_is_whole [.int i] = .ok (.bl true) := rfl
@[simp] theorem count_int (i : Int) : c_is_count [.int i] = .ok (.bl (decide (0 ≤ i))) := rfl
@[simp] theorem bit_int (i : Int) (h : 0 ≤ i) : c_is_bit [.int i] = .ok (.bl (decide (i < 2))) := by
  simp [c_is_bit, den_is_bit, h]
@[simp] theorem tuple_of (xs : List D) (n : Int) : c_is_tuple_of [.tup xs, .int n] = .ok (.bl ((xs.length : Int) == n)) := by
  simp [c_is_tuple_of, den_is_tuple_of]
def linkD (c d p q : Int) : D := .tup [.int c, .int d, .int p, .int q]
theorem is_link_ok {c d p q : Int} (h1 : 0 < c) (h2 : 0 < d) (h3 : 0 < p) (h4 : 0 < q) : c_is_link [linkD c d p q] = .ok (.bl true) := by
  simp [c_is_link, den_is_link, linkD, h1, h2, h3, h4, Int.le_of_lt]
inductive Lot where
  | none | old (k : Int) | new (k : Int)
def Lot.d : Lot → D
  | .none => .non
  | .old k => .tup [.str (Str.ofString "old"), .int k]
  | .new k => .tup [.str (Str.ofString "new"), .int k]
structure Co where
  b0 : Int
  h : Int
  b1 : Int
  lot : Lot
  done : Bool
  t0 : Int
  t1 : Int
  t2 : Int
  k0 : Int
  k1 : Int
def Co.d (x : Co) : D := .tup [.tup [.int x.b0, .int x.h], .tup [.int x.b1, x.lot.d, .bl x.done], .tup [.int x.t0, .int x.t1, .int x.t2], .tup [.int x.k0, .int x.k1]]
structure Lk where
  c : Int
  d : Int
  p : Int
  q : Int
def Lk.D (x : Lk) : D := .tup [.int x.c, .int x.d, .int x.p, .int x.q]
structure Lk.Ok (x : Lk) : Prop where
  c : 0 < x.c
  d : 0 < x.d
  p : 0 < x.p
  q : 0 < x.q
def Lot.Ok (p : Int) (unlike : Prop) : Lot → Prop
  | .none => True
  | .old k => 0 < k ∧ k < p
  | .new k => 0 < k ∧ k < p ∧ unlike
structure Co.Ok (l : Lk) (x : Co) : Prop where
  b0 : x.b0 = 0 ∨ x.b0 = 1
  b1 : x.b1 = 0 ∨ x.b1 = 1
  h0 : 0 ≤ x.h
  h1 : x.h < l.q
  lot : x.lot.Ok l.p (x.b0 ≠ x.b1)
  t0 : 0 ≤ x.t0
  t1 : 0 ≤ x.t1
  t2 : 0 ≤ x.t2
  t : x.t0 + x.t1 + x.t2 ≤ l.c
  k0 : 0 ≤ x.k0
  k1 : 0 ≤ x.k1
  k : x.k0 + x.k1 ≤ l.d
theorem is_link_ok' {l : Lk} (h : l.Ok) : c_is_link [l.D] = .ok (.bl true) := is_link_ok h.c h.d h.p h.q
theorem need_link_ok {l : Lk} (h : l.Ok) : c_need_link [l.D] = .ok .non := by
  simp [c_need_link, den_need_link, is_link_ok' h]
theorem eq_old : (PyData.str (Str.ofString "old")).eqv (PyData.str (Str.ofString "old")) = true := by decide
theorem eq_new : (PyData.str (Str.ofString "new")).eqv (PyData.str (Str.ofString "old")) = false := by decide
theorem eq_new2 : (PyData.str (Str.ofString "new")).eqv (PyData.str (Str.ofString "new")) = true := by decide
theorem is_lot_ok {l : Lk} {x : Lot} {u : Bool} (h : x.Ok l.p (u = true)) : c_is_lot [l.D, .bl u, x.d] = .ok (.bl true) := by
  cases x with
  | none => simp [c_is_lot, den_is_lot, Lk.D, Lot.d]
  | old k =>
    obtain ⟨h1, h2⟩ := h
    simp [c_is_lot, den_is_lot, Lk.D, Lot.d, h1, h2, Int.le_of_lt, okN, pyD, eq_old, sc_old]
  | new k =>
    obtain ⟨h1, h2, rfl⟩ := h
    simp [c_is_lot, den_is_lot, Lk.D, Lot.d, h1, h2, Int.le_of_lt, okN, pyD, eq_new, eq_new2, sc_old, sc_new]
theorem is_receiver_ok {l : Lk} {x : Co} (h : x.Ok l) : c_is_receiver [l.D, .int x.b0, .tup [.int x.b1, x.lot.d, .bl x.done]] = .ok (.bl true) := by
  have hl : c_is_lot [l.D, .bl !(x.b1 == x.b0), x.lot.d] = .ok (.bl true) := is_lot_ok (by
    have := h.lot
    cases hx : x.lot with
    | none => trivial
    | old k => rw [hx] at this; exact this
    | new k => rw [hx] at this; exact ⟨this.1, this.2.1, by have := this.2.2; simp; omega⟩)
  have hb : (0 : Int) ≤ x.b1 := by have := h.b1; omega
  have hb2 : x.b1 < 2 := by have := h.b1; omega
  simp [c_is_receiver, den_is_receiver, hl, hb, hb2]
theorem fits_ok {l : Lk} {x : Co} (h : x.Ok l) : c_fits_link [l.D, x.d] = .ok (.bl true) := by
  have h1 := is_receiver_ok h
  have hb : (0 : Int) ≤ x.b0 := by have := h.b0; omega
  have hb2 : x.b0 < 2 := by have := h.b0; omega
  have h2 : c_is_sender [l.D, .tup [.int x.b0, .int x.h]] = .ok (.bl true) := by
    simp [c_is_sender, den_is_sender, Lk.D, hb, hb2, h.h0, h.h1]
  have h3 : c_are_counts [.tup [.int x.t0, .int x.t1, .int x.t2], .int 3, .int l.c] = .ok (.bl true) := by
    have := h.t
    simp [c_are_counts, den_are_counts, h.t0, h.t1, h.t2]
    omega
  have h4 : c_are_counts [.tup [.int x.k0, .int x.k1], .int 2, .int l.d] = .ok (.bl true) := by
    have := h.k
    simp [c_are_counts, den_are_counts, h.k0, h.k1]
    omega
  simp [c_fits_link, den_fits_link, Co.d, h1, h2]
  simp [Lk.D, h3, h4]
theorem need_contents_ok {l : Lk} {x : Co} (hl : l.Ok) (h : x.Ok l) : c_need_contents [l.D, x.d] = .ok .non := by
  simp [c_need_contents, den_need_contents, need_link_ok hl, fits_ok h]
def Lot.kept : Lot → Int
  | .old k => k
  | _ => 0
def ansI (x : Co) : Int := x.h + if x.b0 = 0 then x.k0 else x.k1
def oldI (x : Co) : Int := (if x.b1 = 0 then x.t2 else x.t1) + x.lot.kept
theorem answers_of_ok {l : Lk} {x : Co} (h : x.Ok l) : c_answers_of [x.d] = .ok (.int (ansI x)) := by
  rcases h.b0 with e | e <;> simp [c_answers_of, den_answers_of, Co.d, e, ansI]
theorem old_of_ok {l : Lk} {x : Co} (h : x.Ok l) : c_old_of [x.d] = .ok (.int (oldI x)) := by
  rcases h.b1 with e | e <;> cases hx : x.lot <;> simp [c_old_of, den_old_of, Co.d, e, oldI, hx, Lot.d, Lot.kept, okN, pyD, eq_old, eq_new, sc_old, sc_new]
def sigB (l : Lk) (x : Co) : Bool × Bool × Bool × Bool := (x.b0 == x.b1, x.done, decide (l.q ≤ ansI x), decide (l.p ≤ oldI x))
def dB (s : Bool × Bool × Bool × Bool) : D := .tup [.bl s.1, .bl s.2.1, .bl s.2.2.1, .bl s.2.2.2]
def sigD (l : Lk) (x : Co) : D := dB (sigB l x)
theorem signs_of_ok {l : Lk} {x : Co} (h : x.Ok l) : c_signs_of [l.D, x.d] = .ok (sigD l x) := by
  have h1 := answers_of_ok h
  have h2 := old_of_ok h
  simp only [Co.d] at h1 h2
  simp [c_signs_of, den_signs_of, Co.d, Lk.D, sigD, dB, sigB, h1, h2]
def harmB : Bool × Bool × Bool × Bool → Int
  | (true, true, _, o) => if o then 2 else 0
  | (true, false, a, o) => if a && o then 3 else 1
  | (false, true, _, _) => 1
  | (false, false, a, o) => if a || o then 2 else 0
def harmI (l : Lk) (x : Co) : Int := harmB (sigB l x)
theorem harm_by_ok (a b c d : Bool) : c_harm_by [.bl a, .bl b, .bl c, .bl d] = .ok (.int (harmB (a, b, c, d))) := by
  cases a <;> cases b <;> cases c <;> cases d <;> rfl
theorem harm_of_ok {l : Lk} {x : Co} (h : x.Ok l) : c_harm_of [l.D, x.d] = .ok (.int (harmI l x)) := by
  have h1 := signs_of_ok h
  unfold sigD at h1
  unfold harmI
  generalize sigB l x = s at h1 ⊢
  obtain ⟨a, b, c, d⟩ := s
  simp [c_harm_of, den_harm_of, h1, dB, harm_by_ok]
/-! the program's own functions -/
theorem answers_count_ok {l : Lk} {x : Co} (hl : l.Ok) (h : x.Ok l) : c_answers_count [l.D, x.d] = .ok (.int (ansI x)) := by
  simp [c_answers_count, den_answers_count, need_contents_ok hl h, answers_of_ok h]
theorem old_count_ok {l : Lk} {x : Co} (hl : l.Ok) (h : x.Ok l) : c_old_count [l.D, x.d] = .ok (.int (oldI x)) := by
  simp [c_old_count, den_old_count, need_contents_ok hl h, old_of_ok h]
theorem signs_ok {l : Lk} {x : Co} (hl : l.Ok) (h : x.Ok l) : c_signs [l.D, x.d] = .ok (sigD l x) := by
  simp [c_signs, den_signs, need_contents_ok hl h, signs_of_ok h]
theorem is_sound_ok {l : Lk} (hl : l.Ok) (h1 : l.c ≤ l.p) (h2 : l.d ≤ l.q) : c_is_sound [l.D] = .ok (.bl true) := by
  have h := need_link_ok hl
  simp only [Lk.D] at h
  simp [c_is_sound, den_is_sound, h, Lk.D, h1, h2]
theorem need_sound_contents_ok {l : Lk} {x : Co} (hl : l.Ok) (h : x.Ok l) (h1 : l.c ≤ l.p) (h2 : l.d ≤ l.q) : c_need_sound_contents [l.D, x.d] = .ok .non := by
  have := is_sound_ok hl h1 h2
  simp [c_need_sound_contents, den_need_sound_contents, need_contents_ok hl h, c_need_sound, den_need_sound, this]
theorem harm_ok {l : Lk} {x : Co} (hl : l.Ok) (h : x.Ok l) (h1 : l.c ≤ l.p) (h2 : l.d ≤ l.q) : c_harm [l.D, x.d] = .ok (.int (harmI l x)) := by
  simp [c_harm, den_harm, need_sound_contents_ok hl h h1 h2, harm_of_ok h]
theorem is_harmless_ok {l : Lk} {x : Co} (hl : l.Ok) (h : x.Ok l) (h1 : l.c ≤ l.p) (h2 : l.d ≤ l.q) : c_is_harmless [l.D, x.d] = .ok (.bl (harmI l x == 0)) := by
  simp [c_is_harmless, den_is_harmless, need_sound_contents_ok hl h h1 h2, harm_of_ok h]
/-! mirrored -/
def Co.mir (x : Co) : Co := ⟨1 - x.b0, x.h, 1 - x.b1, x.lot, x.done, x.t0, x.t2, x.t1, x.k1, x.k0⟩
theorem mir_ok {l : Lk} {x : Co} (h : x.Ok l) : x.mir.Ok l := by
  refine ⟨by have := h.b0; simp [Co.mir]; omega, by have := h.b1; simp [Co.mir]; omega, h.h0, h.h1, ?_, h.t0, h.t2, h.t1, by have := h.t; simp [Co.mir]; omega, h.k1, h.k0, by have := h.k; simp [Co.mir]; omega⟩
  have := h.lot
  cases hx : x.lot with
  | none => simp [Co.mir, hx, Lot.Ok]
  | old k => rw [hx] at this; simpa [Co.mir, hx, Lot.Ok] using this
  | new k => rw [hx] at this; simp [Co.mir, hx, Lot.Ok]; exact ⟨this.1, this.2.1, by have := this.2.2; omega⟩
theorem mir_ans {l : Lk} {x : Co} (h : x.Ok l) : ansI x.mir = ansI x := by
  rcases h.b0 with e | e <;> simp [ansI, Co.mir, e]
theorem mir_old {l : Lk} {x : Co} (h : x.Ok l) : oldI x.mir = oldI x := by
  rcases h.b1 with e | e <;> simp [oldI, Co.mir, e]
theorem mir_sig {l : Lk} {x : Co} (h : x.Ok l) : sigB l x.mir = sigB l x := by
  have : ((1 - x.b0 : Int) == 1 - x.b1) = (x.b0 == x.b1) := by
    by_cases e : x.b0 = x.b1
    · simp [e]
    · have e2 : ¬ (1 - x.b0 = 1 - x.b1) := by omega
      rw [beq_eq_false_iff_ne.mpr e, beq_eq_false_iff_ne.mpr e2]
  unfold sigB
  rw [mir_ans h, mir_old h]
  simp only [Co.mir, this]
theorem mir_harm {l : Lk} {x : Co} (h : x.Ok l) : harmI l x.mir = harmI l x := by
  unfold harmI
  rw [mir_sig h]
/-- sizes up to 10 ^ 28 and some -/
structure Lk.Small (x : Lk) : Prop where
  c : x.c ≤ 100000000000000000000000000000
  d : x.d ≤ 100000000000000000000000000000
  p : x.p ≤ 100000000000000000000000000000
  q : x.q ≤ 100000000000000000000000000000
theorem okL {l : Lk} {n : Nat} (lo : l.Ok) (ls : l.Small) : okN (n + 1) l.D = true := by
  have := lo.c; have := lo.d; have := lo.p; have := lo.q
  have := ls.c; have := ls.d; have := ls.p; have := ls.q
  have h1 : okN n (.int l.c) = true := okI (by omega)
  have h2 : okN n (.int l.d) = true := okI (by omega)
  have h3 : okN n (.int l.p) = true := okI (by omega)
  have h4 : okN n (.int l.q) = true := okI (by omega)
  unfold Lk.D
  simp only [okN, okNs] at h1 h2 h3 h4 ⊢
  simp only [h1, h2, h3, h4, Bool.and_self]
structure Co.Small (x : Co) : Prop where
  b0 : x.b0.natAbs < 1606938044258990275541962092341162602522202993782792835301376
  h : x.h.natAbs < 1606938044258990275541962092341162602522202993782792835301376
  b1 : x.b1.natAbs < 1606938044258990275541962092341162602522202993782792835301376
  t0 : x.t0.natAbs < 1606938044258990275541962092341162602522202993782792835301376
  t1 : x.t1.natAbs < 1606938044258990275541962092341162602522202993782792835301376
  t2 : x.t2.natAbs < 1606938044258990275541962092341162602522202993782792835301376
  k0 : x.k0.natAbs < 1606938044258990275541962092341162602522202993782792835301376
  k1 : x.k1.natAbs < 1606938044258990275541962092341162602522202993782792835301376
theorem Co.Ok.small {l : Lk} {x : Co} (ls : l.Small) (h : x.Ok l) : x.Small := by
  have := ls.c; have := ls.d; have := ls.p; have := ls.q
  have := h.b0; have := h.b1; have := h.h0; have := h.h1; have := h.t0; have := h.t1; have := h.t2; have := h.t; have := h.k0; have := h.k1; have := h.k
  exact ⟨by omega, by omega, by omega, by omega, by omega, by omega, by omega, by omega⟩
theorem okLot {l : Lk} {x : Lot} {u : Prop} {n : Nat} (ls : l.Small) (h : x.Ok l.p u) : okN (n + 1) x.d = true := by
  have := ls.p
  cases x with
  | none => simp [Lot.d, okN]
  | old k =>
    have h1 : okN n (.int k) = true := okI (by have := h.1; have := h.2; omega)
    simp only [okN] at h1
    simp only [Lot.d, okN, okNs, sc_old, h1, Bool.and_self]
  | new k =>
    have h1 : okN n (.int k) = true := okI (by have := h.1; have := h.2.1; omega)
    simp only [okN] at h1
    simp only [Lot.d, okN, okNs, sc_new, h1, Bool.and_self]
theorem okC {l : Lk} {x : Co} {n : Nat} (ls : l.Small) (h : x.Ok l) : okN (n + 3) x.d = true := by
  have s := h.small ls
  have h0 := okLot (n := n) ls h.lot
  have h1 : ∀ k, okN k (.int x.b0) = true := fun k => okI s.b0
  have h2 : ∀ k, okN k (.int x.h) = true := fun k => okI s.h
  have h3 : ∀ k, okN k (.int x.b1) = true := fun k => okI s.b1
  have h4 : ∀ k, okN k (.int x.t0) = true := fun k => okI s.t0
  have h5 : ∀ k, okN k (.int x.t1) = true := fun k => okI s.t1
  have h6 : ∀ k, okN k (.int x.t2) = true := fun k => okI s.t2
  have h7 : ∀ k, okN k (.int x.k0) = true := fun k => okI s.k0
  have h8 : ∀ k, okN k (.int x.k1) = true := fun k => okI s.k1
  have hb : ∀ k, okN k (.bl x.done) = true := fun k => rfl
  have tup : ∀ k xs, okN (k + 1) (.tup xs) = okNs k xs := fun k xs => by simp only [okN]
  have cons : ∀ k d r, okNs k (d :: r) = (okN k d && okNs k r) := fun k d r => by simp only [okNs]
  have nil : ∀ k, okNs k [] = true := fun k => by simp only [okNs]
  unfold Co.d
  simp only [tup, cons, nil, h0, h1, h2, h3, h4, h5, h6, h7, h8, hb, Bool.and_self]
theorem wLot (x : Lot) : wD x.d ≤ 3000 := by
  have e1 : (Str.ofString "old").length = 3 := by decide
  have e2 : (Str.ofString "new").length = 3 := by decide
  cases x <;> simp [Lot.d, wD, wDs, e1, e2]
theorem wC (x : Co) : wD x.d ≤ 30000 := by
  have := wLot x.lot
  simp [Co.d, wD, wDs]
  omega
theorem wL (l : Lk) : wD l.D ≤ 10000 := by
  simp [Lk.D, wD, wDs]
theorem ansB {l : Lk} {x : Co} (lo : l.Ok) (ls : l.Small) (h : x.Ok l) : (ansI x).natAbs < 1606938044258990275541962092341162602522202993782792835301376 := by
  have s := h.small ls
  have := ls.d; have := ls.q; have := h.h0; have := h.h1; have := h.k0; have := h.k1; have := h.k
  unfold ansI
  split <;> omega
theorem oldB {l : Lk} {x : Co} (lo : l.Ok) (ls : l.Small) (h : x.Ok l) : (oldI x).natAbs < 1606938044258990275541962092341162602522202993782792835301376 := by
  have := ls.c; have := ls.p; have := h.t0; have := h.t1; have := h.t2; have := h.t
  have : 0 ≤ x.lot.kept ∧ x.lot.kept ≤ l.p := by
    have hl := h.lot
    have := lo.p
    cases hx : x.lot with
    | none => simp only [Lot.kept]; omega
    | old k =>
      rw [hx] at hl
      have := hl.1
      have := hl.2
      simp only [Lot.kept]
      omega
    | new k => simp only [Lot.kept]; omega
  unfold oldI
  split <;> omega
end PG


namespace PG
open DL PySem L2
/-! events, and what they do -/
inductive Cp where
  | new | zero | one
deriving DecidableEq
def Cp.s : Cp → Str
  | .new => Str.ofString "new"
  | .zero => Str.ofString "zero"
  | .one => Str.ofString "one"
inductive Ev where
  | send | drop (c : Cp) | bring (c : Cp) | miss (b : Bool) | hear (b : Bool)
deriving DecidableEq
def Ev.d : Ev → D
  | .send => .tup [.str (Str.ofString "send")]
  | .drop c => .tup [.str (Str.ofString "drop"), .str c.s]
  | .bring c => .tup [.str (Str.ofString "bring"), .str c.s]
  | .miss b => .tup [.str (Str.ofString "miss"), .int (bI b)]
  | .hear b => .tup [.str (Str.ofString "hear"), .int (bI b)]
def evs : List Ev := [.bring .new, .bring .one, .bring .zero, .drop .new, .drop .one, .drop .zero, .hear false, .hear true, .miss false, .miss true, .send]
def Co.cnt (x : Co) : Cp → Int
  | .new => x.t0
  | .zero => x.t1
  | .one => x.t2
def Co.ans (x : Co) : Bool → Int
  | false => x.k0
  | true => x.k1
def Co.addT (x : Co) (c : Cp) (n : Int) : Co := match c with
  | .new => { x with t0 := x.t0 + n }
  | .zero => { x with t1 := x.t1 + n }
  | .one => { x with t2 := x.t2 + n }
def Co.addK (x : Co) (b : Bool) (n : Int) : Co := match b with
  | false => { x with k0 := x.k0 + n }
  | true => { x with k1 := x.k1 + n }
def Co.bitOf (x : Co) : Cp → Int
  | .new => x.b0
  | .zero => 0
  | .one => 1
def Cp.isNew : Cp → Bool
  | .new => true
  | _ => false
def canB (l : Lk) (x : Co) : Ev → Bool
  | .send => decide (x.t0 + x.t1 + x.t2 < l.c)
  | .drop c => decide (0 < x.cnt c)
  | .bring c => decide (0 < x.cnt c)
  | .miss b => decide (0 < x.ans b)
  | .hear b => decide (0 < x.ans b)
/-- how many a lot of a sort has behind one more -/
def Lot.more : Lot → Bool → Int
  | .new k, true => k + 1
  | .old k, false => k + 1
  | _, _ => 1
def Lot.of (isNew : Bool) (k : Int) : Lot := if isNew = true then .new k else .old k
def Lot.aged : Lot → Lot
  | .none => .none
  | .old k => .old k
  | .new k => .old k
/-- a copy of a bit is taken in -/
def Co.take (l : Lk) (x : Co) (bit : Int) (n : Bool) : Co :=
  if bit = x.b1 then { x with lot := .none }
  else if x.lot.more n < l.p then { x with lot := .of n (x.lot.more n) }
  else { x with b1 := bit, lot := .none, done := x.done || n }
def Co.answer (l : Lk) (x : Co) (bit : Int) : Co :=
  if x.b1 = bit ∧ x.k0 + x.k1 < l.d then x.addK (decide (bit = 1)) 1 else x
def Co.hears (l : Lk) (x : Co) (b : Bool) : Co :=
  if bI b = x.b0 then
    if x.h + 1 < l.q then { x with h := x.h + 1 }
    else if x.b0 = 0 then { x with b0 := 1, h := 0, lot := x.lot.aged, done := false, t0 := 0, t1 := x.t1 + x.t0 }
    else { x with b0 := 0, h := 0, lot := x.lot.aged, done := false, t0 := 0, t2 := x.t2 + x.t0 }
  else x
def mv (l : Lk) (x : Co) : Ev → Co
  | .send => x.addT .new 1
  | .drop c => x.addT c (-1)
  | .bring c => (((x.addT c (-1)).take l (x.bitOf c) c.isNew).answer l (x.bitOf c))
  | .miss b => x.addK b (-1)
  | .hear b => (x.addK b (-1)).hears l b
inductive Wr where
  | none | lost | made | twice
deriving DecidableEq
def Wr.d : Wr → D
  | .none => .non
  | .lost => .str (Str.ofString "lost")
  | .made => .str (Str.ofString "made")
  | .twice => .str (Str.ofString "twice")
def wr (l : Lk) (x : Co) (e : Ev) : Wr :=
  if (mv l x e).b0 ≠ x.b0 then (if x.done = true then .none else .lost)
  else if (mv l x e).b1 ≠ x.b1 then
    match e with
    | .bring .new => if x.done = true then .twice else .none
    | _ => .made
  else .none
section
variable {l : Lk} {x : Co}
theorem ch3_0 (a b c n : Int) : c_changed [.tup [.int a, .int b, .int c], .int 0, .int n] = .ok (.tup [.int (a + n), .int b, .int c]) := by
  simp [c_changed, den_changed, cutD, HT.sIx]
theorem ch3_1 (a b c n : Int) : c_changed [.tup [.int a, .int b, .int c], .int 1, .int n] = .ok (.tup [.int a, .int (b + n), .int c]) := by
  simp [c_changed, den_changed, cutD, HT.sIx]
theorem ch3_2 (a b c n : Int) : c_changed [.tup [.int a, .int b, .int c], .int 2, .int n] = .ok (.tup [.int a, .int b, .int (c + n)]) := by
  simp [c_changed, den_changed, cutD, HT.sIx]
theorem ch2_0 (a b n : Int) : c_changed [.tup [.int a, .int b], .int 0, .int n] = .ok (.tup [.int (a + n), .int b]) := by
  simp [c_changed, den_changed, cutD, HT.sIx]
theorem ch2_1 (a b n : Int) : c_changed [.tup [.int a, .int b], .int 1, .int n] = .ok (.tup [.int a, .int (b + n)]) := by
  simp [c_changed, den_changed, cutD, HT.sIx]
theorem is_event_ok (e : Ev) : c_is_event [e.d] = .ok (.bl true) := by
  cases e with
  | send => rfl
  | drop c => cases c <;> rfl
  | bring c => cases c <;> rfl
  | miss b => cases b <;> rfl
  | hear b => cases b <;> rfl
theorem need_event_ok (e : Ev) : c_need_event [e.d] = .ok .non := by
  simp [c_need_event, den_need_event, is_event_ok]
theorem copies_in (c : Cp) : inA (.str c.s) g_COPIES = some (.bl true) := by cases c <;> rfl
theorem copies_ix (c : Cp) : idxT g_COPIES (.str c.s) = some (.int (match c with | .new => 0 | .zero => 1 | .one => 2)) := by cases c <;> rfl
theorem int_copies (b : Bool) : inA (.int (bI b)) g_COPIES = some (.bl false) := by cases b <;> rfl
theorem lying_c (c : Cp) (w : Str) : c_lying [x.d, .tup [.str w, .str c.s]] = .ok (.int (x.cnt c)) := by
  cases c <;> simp [-inA, -idxT, c_lying, den_lying, copies_in, copies_ix, Co.d, Co.cnt]
theorem lying_b (b : Bool) (w : Str) : c_lying [x.d, .tup [.str w, .int (bI b)]] = .ok (.int (x.ans b)) := by
  have := int_copies b
  cases b <;> simp [-inA] at this <;> simp [-inA, c_lying, den_lying, this, Co.d, Co.ans]
theorem in_send2 : inA (.str (Str.ofString "send")) (.tup [.str (Str.ofString "send"), .str (Str.ofString "double")]) = some (.bl true) := rfl
theorem in_drop2 : inA (.str (Str.ofString "drop")) (.tup [.str (Str.ofString "send"), .str (Str.ofString "double")]) = some (.bl false) := rfl
theorem in_bring2 : inA (.str (Str.ofString "bring")) (.tup [.str (Str.ofString "send"), .str (Str.ofString "double")]) = some (.bl false) := rfl
theorem in_miss2 : inA (.str (Str.ofString "miss")) (.tup [.str (Str.ofString "send"), .str (Str.ofString "double")]) = some (.bl false) := rfl
theorem in_hear2 : inA (.str (Str.ofString "hear")) (.tup [.str (Str.ofString "send"), .str (Str.ofString "double")]) = some (.bl false) := rfl
theorem can_ok (h : x.Ok l) (e : Ev) : c_can_happen [l.D, x.d, e.d] = .ok (.bl (canB l x e)) := by
  cases e with
  | send =>
    have := h.t
    by_cases hs : x.t0 + x.t1 + x.t2 < l.c
    · have h1 : ¬ (x.t0 + (x.t1 + x.t2) = l.c) := by omega
      have h1' : (x.t0 + (x.t1 + x.t2) == l.c) = false := beq_eq_false_iff_ne.mpr h1
      simp [-inA, c_can_happen, den_can_happen, Ev.d, canB, in_send2, Co.d, Lk.D, hs, h1', Int.add_assoc]
      omega
    · have h1 : x.t0 + (x.t1 + x.t2) = l.c := by omega
      simp [-inA, c_can_happen, den_can_happen, Ev.d, canB, in_send2, Co.d, Lk.D, hs, h1, Int.add_assoc]
  | drop c =>
    have := lying_c (x := x) c (Str.ofString "drop")
    simp [-inA, c_can_happen, den_can_happen, Ev.d, canB, in_drop2, this]
  | bring c =>
    have := lying_c (x := x) c (Str.ofString "bring")
    simp [-inA, c_can_happen, den_can_happen, Ev.d, canB, in_bring2, this]
  | miss b =>
    have := lying_b (x := x) b (Str.ofString "miss")
    simp only [bI] at this
    simp [-inA, c_can_happen, den_can_happen, Ev.d, canB, in_miss2, this]
  | hear b =>
    have := lying_b (x := x) b (Str.ofString "hear")
    simp only [bI] at this
    simp [-inA, c_can_happen, den_can_happen, Ev.d, canB, in_hear2, this]
theorem borne_ok (c : Cp) : c_borne_by [x.d, .str c.s] = .ok (.int (x.bitOf c)) := by
  cases c <;> simp [c_borne_by, den_borne_by, Cp.s, Co.d, Co.bitOf, g_COPIES]
theorem taken_in_ok (hb : x.b1 = 0 ∨ x.b1 = 1) (bit : Int) (n : Bool) : c_taken_in [l.D, .tup [.int x.b1, x.lot.d, .bl x.done], .int bit, .str (if n = true then Str.ofString "new" else Str.ofString "old")] = .ok (.tup [.int (x.take l bit n).b1, (x.take l bit n).lot.d, .bl (x.take l bit n).done]) := by
  by_cases h1 : bit = x.b1
  · simp [c_taken_in, den_taken_in, h1, Co.take, Lot.d]
  · have h1' : (bit == x.b1) = false := beq_eq_false_iff_ne.mpr h1
    unfold Lk.D
    by_cases h2 : x.lot.more n < l.p
    · cases n <;> cases hl : x.lot <;> simp [hl, Lot.more] at h2 <;> simp [c_taken_in, den_taken_in, h1, h1', Co.take, Lot.d, hl, Lot.more, Lot.of, h2]
    · cases n <;> cases hl : x.lot <;> simp [hl, Lot.more] at h2 <;> cases hd : x.done <;> simp [c_taken_in, den_taken_in, h1, h1', Co.take, Lot.d, hl, Lot.more, Lot.of, h2, Int.not_lt.mpr h2, hd]
theorem changed_T (c : Cp) (n : Int) : c_changed [.tup [.int x.t0, .int x.t1, .int x.t2], .int (match c with | .new => 0 | .zero => 1 | .one => 2), .int n] = .ok (.tup [.int (x.addT c n).t0, .int (x.addT c n).t1, .int (x.addT c n).t2]) := by
  cases c <;> simp [ch3_0, ch3_1, ch3_2, Co.addT]
theorem changed_K (b : Bool) (n : Int) : c_changed [.tup [.int x.k0, .int x.k1], .int (bI b), .int n] = .ok (.tup [.int (x.addK b n).k0, .int (x.addK b n).k1]) := by
  cases b <;> simp [ch2_0, ch2_1, Co.addK]
theorem bitOf_01 (h : x.b0 = 0 ∨ x.b0 = 1) (c : Cp) : x.bitOf c = 0 ∨ x.bitOf c = 1 := by
  cases c <;> simp [Co.bitOf, h]
theorem take_same (bit : Int) (n : Bool) : (x.take l bit n).b0 = x.b0 ∧ (x.take l bit n).h = x.h ∧ (x.take l bit n).t0 = x.t0 ∧ (x.take l bit n).t1 = x.t1 ∧ (x.take l bit n).t2 = x.t2 ∧ (x.take l bit n).k0 = x.k0 ∧ (x.take l bit n).k1 = x.k1 := by
  unfold Co.take
  split
  · exact ⟨rfl, rfl, rfl, rfl, rfl, rfl, rfl⟩
  · split <;> exact ⟨rfl, rfl, rfl, rfl, rfl, rfl, rfl⟩
theorem addT_same (c : Cp) (n : Int) : (x.addT c n).b0 = x.b0 ∧ (x.addT c n).h = x.h ∧ (x.addT c n).b1 = x.b1 ∧ (x.addT c n).lot = x.lot ∧ (x.addT c n).done = x.done ∧ (x.addT c n).k0 = x.k0 ∧ (x.addT c n).k1 = x.k1 := by
  cases c <;> exact ⟨rfl, rfl, rfl, rfl, rfl, rfl, rfl⟩
theorem addK_same (b : Bool) (n : Int) : (x.addK b n).b0 = x.b0 ∧ (x.addK b n).h = x.h ∧ (x.addK b n).b1 = x.b1 ∧ (x.addK b n).lot = x.lot ∧ (x.addK b n).done = x.done ∧ (x.addK b n).t0 = x.t0 ∧ (x.addK b n).t1 = x.t1 ∧ (x.addK b n).t2 = x.t2 := by
  cases b <;> exact ⟨rfl, rfl, rfl, rfl, rfl, rfl, rfl, rfl⟩
theorem Co.ext_d {x y : Co} (a : x.b0 = y.b0) (b : x.h = y.h) (c : x.b1 = y.b1) (d : x.lot = y.lot) (e : x.done = y.done) (f : x.t0 = y.t0) (g : x.t1 = y.t1) (h : x.t2 = y.t2) (i : x.k0 = y.k0) (j : x.k1 = y.k1) : x = y := by
  cases x; cases y; simp_all
theorem cs_new (c : Cp) : (fIf (fBl (fOp eqD (fC (.str c.s)) (fC (.str (Str.ofString "new"))))) (fC (.str (Str.ofString "new"))) (fC (.str (Str.ofString "old")))) = fun ρ => R.ok (.str (if c.isNew = true then Str.ofString "new" else Str.ofString "old")) ρ := by
  cases c <;> funext ρ <;> simp [Cp.s, Cp.isNew]
theorem brought_ok (h : x.Ok l) (c : Cp) : c_brought [l.D, x.d, .str c.s] = .ok (mv l x (.bring c)).d := by
  obtain ⟨s1, s2, s3, s4, s5, s6, s7⟩ := addT_same (x := x) c (-1)
  obtain ⟨q1, q2, q3, q4, q5, q6, q7⟩ := take_same (l := l) (x := x.addT c (-1)) (x.bitOf c) c.isNew
  have e1 := borne_ok (x := x) c
  have e2 := changed_T (x := x) c (-1)
  have e3 := taken_in_ok (l := l) (x := x.addT c (-1)) (by rw [s3]; exact h.b1) (x.bitOf c) c.isNew
  rw [s3, s4, s5] at e3
  have e4 := copies_ix c
  have hbit := bitOf_01 h.b0 c
  simp only [Co.d] at e1
  have e6 : (mv l x (.bring c)) = ((x.addT c (-1)).take l (x.bitOf c) c.isNew).answer l (x.bitOf c) := rfl
  rw [e6]
  unfold Co.answer
  generalize (x.addT c (-1)).take l (x.bitOf c) c.isNew = y at *
  generalize hb : x.bitOf c = bit at *
  simp only [Lk.D] at e3
  rw [q6, q7, s6, s7]
  by_cases h1 : y.b1 = bit
  · by_cases h2 : x.k0 + x.k1 < l.d
    · rcases hbit with rfl | rfl <;> cases c <;> simp [-idxT, Cp.isNew, Cp.s] at e1 e2 e3 e4 <;> simp [-idxT, c_brought, den_brought, Co.d, Lk.D, e1, e2, e3, e4, h1, h2, ch2_0, ch2_1, Co.addK, q1, q2, q3, q4, q5, q6, q7, s1, s2, s6, s7, Cp.s]
    · cases c <;> simp [-idxT, Cp.isNew, Cp.s] at e1 e2 e3 e4 <;> simp [-idxT, c_brought, den_brought, Co.d, Lk.D, e1, e2, e3, e4, h1, h2, q1, q2, q3, q4, q5, q6, q7, s1, s2, s6, s7, Cp.s]
  · have h1' : (y.b1 == bit) = false := beq_eq_false_iff_ne.mpr h1
    cases c <;> simp [-idxT, Cp.isNew, Cp.s] at e1 e2 e3 e4 <;> simp [-idxT, c_brought, den_brought, Co.d, Lk.D, e1, e2, e3, e4, h1, h1', q1, q2, q3, q4, q5, q6, q7, s1, s2, s6, s7, Cp.s]
theorem begun_ok : c_begun_anew [.tup [.int x.b1, x.lot.d, .bl x.done]] = .ok (.tup [.int x.b1, x.lot.aged.d, .bl false]) := by
  cases hl : x.lot <;> simp [c_begun_anew, den_begun_anew, Lot.d, Lot.aged]
theorem grown_0 (a b c : Int) : c_grown_old [.tup [.int a, .int b, .int c], .int 0] = .ok (.tup [.int 0, .int (b + a), .int c]) := by
  simp [c_grown_old, den_grown_old, cutD, HT.sIx, ch3_1]
theorem grown_1 (a b c : Int) : c_grown_old [.tup [.int a, .int b, .int c], .int 1] = .ok (.tup [.int 0, .int b, .int (c + a)]) := by
  simp [c_grown_old, den_grown_old, cutD, HT.sIx, ch3_2]
theorem answered_ok (h : x.Ok l) (b : Bool) : c_answered_by [l.D, x.d, .int (bI b)] = .ok (mv l x (.hear b)).d := by
  obtain ⟨q1, q2, q3, q4, q5, q6, q7, q8⟩ := addK_same (x := x) b (-1)
  have e2 := changed_K (x := x) b (-1)
  have e3 := begun_ok (x := x)
  have e6 : (mv l x (.hear b)) = (x.addK b (-1)).hears l b := rfl
  rw [e6]
  unfold Co.hears
  generalize x.addK b (-1) = y at *
  rw [q1, q2, q4, q6, q7, q8]
  by_cases h1 : bI b = x.b0
  · rw [h1] at e2 ⊢
    by_cases h2 : x.h + 1 < l.q
    · simp [c_answered_by, den_answered_by, Co.d, Lk.D, e2, h2, q1, q2, q3, q4, q5, q6, q7, q8]
    · rcases h.b0 with hb | hb
      · rw [hb] at e2 ⊢
        simp [c_answered_by, den_answered_by, Co.d, Lk.D, e2, e3, h2, hb, grown_0, q1, q2, q3, q4, q5, q6, q7, q8]
      · rw [hb] at e2 ⊢
        simp [c_answered_by, den_answered_by, Co.d, Lk.D, e2, e3, h2, hb, grown_1, q1, q2, q3, q4, q5, q6, q7, q8]
  · have h1' : (bI b == x.b0) = false := beq_eq_false_iff_ne.mpr h1
    simp [-bI, c_answered_by, den_answered_by, Co.d, Lk.D, e2, h1, h1', q1, q2, q3, q4, q5, q6, q7, q8]
theorem in_send3 : inA (.str (Str.ofString "send")) (.tup [.str (Str.ofString "send"), .str (Str.ofString "double"), .str (Str.ofString "repeat")]) = some (.bl true) := rfl
theorem in_drop3 : inA (.str (Str.ofString "drop")) (.tup [.str (Str.ofString "send"), .str (Str.ofString "double"), .str (Str.ofString "repeat")]) = some (.bl false) := rfl
theorem in_miss3 : inA (.str (Str.ofString "miss")) (.tup [.str (Str.ofString "send"), .str (Str.ofString "double"), .str (Str.ofString "repeat")]) = some (.bl false) := rfl
theorem in_send4 : inA (.str (Str.ofString "send")) (.tup [.str (Str.ofString "miss"), .str (Str.ofString "repeat")]) = some (.bl false) := rfl
theorem in_drop4 : inA (.str (Str.ofString "drop")) (.tup [.str (Str.ofString "miss"), .str (Str.ofString "repeat")]) = some (.bl false) := rfl
theorem in_miss4 : inA (.str (Str.ofString "miss")) (.tup [.str (Str.ofString "miss"), .str (Str.ofString "repeat")]) = some (.bl true) := rfl
theorem moved_ok (h : x.Ok l) (e : Ev) : c_moved [l.D, x.d, e.d] = .ok (mv l x e).d := by
  cases e with
  | send =>
    simp [-inA, c_moved, den_moved, Ev.d, in_send3, in_send4, mv, Co.addT, Co.d, g_COPIES, ch3_0]
  | drop c =>
    cases c <;> simp [-inA, c_moved, den_moved, Ev.d, in_drop3, in_drop4, mv, Co.addT, Co.d, Cp.s, g_COPIES, ch3_0, ch3_1, ch3_2]
  | bring c =>
    have := brought_ok h c
    simp [c_moved, den_moved, Ev.d, this]
  | miss b =>
    cases b <;> simp [-inA, c_moved, den_moved, Ev.d, in_miss3, in_miss4, mv, Co.addK, Co.d, ch2_0, ch2_1]
  | hear b =>
    have := answered_ok h b
    simp only [bI] at this
    simp [c_moved, den_moved, Ev.d, this]
end
end PG


namespace PG
open DL PySem L2
section
variable {l : Lk} {x : Co}
/-! what is behind an event is contents -/
theorem aged_ok {p : Int} {u v : Prop} {lot : Lot} (h : lot.Ok p u) : lot.aged.Ok p v := by
  cases lot with
  | none => trivial
  | old k => exact h
  | new k => exact ⟨h.1, h.2.1⟩
theorem mv_ok (lo : l.Ok) (h : x.Ok l) (e : Ev) (hc : canB l x e = true) : (mv l x e).Ok l := by
  obtain ⟨hb0, hb1, hh0, hh1, hlot, ht0, ht1, ht2, ht, hk0, hk1, hk⟩ := h
  have := lo.p
  cases e with
  | send =>
    have hc := of_decide_eq_true hc
    exact ⟨hb0, hb1, hh0, hh1, hlot, by show 0 ≤ x.t0 + 1; omega, ht1, ht2, by show x.t0 + 1 + x.t1 + x.t2 ≤ l.c; omega, hk0, hk1, hk⟩
  | drop c =>
    have hc := of_decide_eq_true hc
    cases c <;> simp only [Co.cnt] at hc
    · exact ⟨hb0, hb1, hh0, hh1, hlot, by show 0 ≤ x.t0 + -1; omega, ht1, ht2, by show x.t0 + -1 + x.t1 + x.t2 ≤ l.c; omega, hk0, hk1, hk⟩
    · exact ⟨hb0, hb1, hh0, hh1, hlot, ht0, by show 0 ≤ x.t1 + -1; omega, ht2, by show x.t0 + (x.t1 + -1) + x.t2 ≤ l.c; omega, hk0, hk1, hk⟩
    · exact ⟨hb0, hb1, hh0, hh1, hlot, ht0, ht1, by show 0 ≤ x.t2 + -1; omega, by show x.t0 + x.t1 + (x.t2 + -1) ≤ l.c; omega, hk0, hk1, hk⟩
  | miss b =>
    have hc := of_decide_eq_true hc
    cases b <;> simp only [Co.ans] at hc
    · exact ⟨hb0, hb1, hh0, hh1, hlot, ht0, ht1, ht2, ht, by show 0 ≤ x.k0 + -1; omega, hk1, by show x.k0 + -1 + x.k1 ≤ l.d; omega⟩
    · exact ⟨hb0, hb1, hh0, hh1, hlot, ht0, ht1, ht2, ht, hk0, by show 0 ≤ x.k1 + -1; omega, by show x.k0 + (x.k1 + -1) ≤ l.d; omega⟩
  | hear b =>
    have hc := of_decide_eq_true hc
    have ok1 : (x.addK b (-1)).Ok l := by
      cases b <;> simp only [Co.ans] at hc
      · exact ⟨hb0, hb1, hh0, hh1, hlot, ht0, ht1, ht2, ht, by show 0 ≤ x.k0 + -1; omega, hk1, by show x.k0 + -1 + x.k1 ≤ l.d; omega⟩
      · exact ⟨hb0, hb1, hh0, hh1, hlot, ht0, ht1, ht2, ht, hk0, by show 0 ≤ x.k1 + -1; omega, by show x.k0 + (x.k1 + -1) ≤ l.d; omega⟩
    show ((x.addK b (-1)).hears l b).Ok l
    generalize x.addK b (-1) = y at ok1
    have := lo.q
    obtain ⟨hb0, hb1, hh0, hh1, hlot, ht0, ht1, ht2, ht, hk0, hk1, hk⟩ := ok1
    unfold Co.hears
    split
    · split
      · exact ⟨hb0, hb1, by show 0 ≤ y.h + 1; omega, by assumption, hlot, ht0, ht1, ht2, ht, hk0, hk1, hk⟩
      · split
        · exact ⟨.inr rfl, hb1, Int.le_refl 0, by show 0 < l.q; omega, aged_ok hlot, Int.le_refl 0, by show 0 ≤ y.t1 + y.t0; omega, ht2, by show 0 + (y.t1 + y.t0) + y.t2 ≤ l.c; omega, hk0, hk1, hk⟩
        · exact ⟨.inl rfl, hb1, Int.le_refl 0, by show 0 < l.q; omega, aged_ok hlot, Int.le_refl 0, ht1, by show 0 ≤ y.t2 + y.t0; omega, by show 0 + y.t1 + (y.t2 + y.t0) ≤ l.c; omega, hk0, hk1, hk⟩
    · exact ⟨hb0, hb1, hh0, hh1, hlot, ht0, ht1, ht2, ht, hk0, hk1, hk⟩
  | bring c =>
    have hc := of_decide_eq_true hc
    have hbit := bitOf_01 (x := x) hb0 c
    have ok1 : (x.addT c (-1)).Ok l := by
      cases c <;> simp only [Co.cnt] at hc
      · exact ⟨hb0, hb1, hh0, hh1, hlot, by show 0 ≤ x.t0 + -1; omega, ht1, ht2, by show x.t0 + -1 + x.t1 + x.t2 ≤ l.c; omega, hk0, hk1, hk⟩
      · exact ⟨hb0, hb1, hh0, hh1, hlot, ht0, by show 0 ≤ x.t1 + -1; omega, ht2, by show x.t0 + (x.t1 + -1) + x.t2 ≤ l.c; omega, hk0, hk1, hk⟩
      · exact ⟨hb0, hb1, hh0, hh1, hlot, ht0, ht1, by show 0 ≤ x.t2 + -1; omega, by show x.t0 + x.t1 + (x.t2 + -1) ≤ l.c; omega, hk0, hk1, hk⟩
    have hn : c.isNew = true → x.bitOf c = (x.addT c (-1)).b0 := by cases c <;> intro z <;> first | rfl | cases z
    show (((x.addT c (-1)).take l (x.bitOf c) c.isNew).answer l (x.bitOf c)).Ok l
    generalize x.addT c (-1) = y at ok1 hn
    have ok2 : (y.take l (x.bitOf c) c.isNew).Ok l := by
      obtain ⟨hb0, hb1, hh0, hh1, hlot, ht0, ht1, ht2, ht, hk0, hk1, hk⟩ := ok1
      unfold Co.take
      split
      · exact ⟨hb0, hb1, hh0, hh1, trivial, ht0, ht1, ht2, ht, hk0, hk1, hk⟩
      · next hne =>
        split
        · next hl =>
          refine ⟨hb0, hb1, hh0, hh1, ?_, ht0, ht1, ht2, ht, hk0, hk1, hk⟩
          have hm : 0 < y.lot.more c.isNew := by
            cases hy : y.lot <;> rw [hy] at hlot <;> cases hcn : c.isNew <;> simp only [Lot.more] <;> first | omega | (have := hlot.1; omega)
          cases hcn : c.isNew
          · rw [hcn] at hm hl
            exact ⟨hm, hl⟩
          · rw [hcn] at hm hl
            exact ⟨hm, hl, fun z => hne ((hn hcn).trans z)⟩
        · exact ⟨hb0, hbit, hh0, hh1, trivial, ht0, ht1, ht2, ht, hk0, hk1, hk⟩
    generalize y.take l (x.bitOf c) c.isNew = z at ok2
    unfold Co.answer
    split
    · next hl =>
      obtain ⟨hb0, hb1, hh0, hh1, hlot, ht0, ht1, ht2, ht, hk0, hk1, hk⟩ := ok2
      unfold Co.addK
      split
      · exact ⟨hb0, hb1, hh0, hh1, hlot, ht0, ht1, ht2, ht, by show 0 ≤ z.k0 + 1; omega, hk1, by show z.k0 + 1 + z.k1 ≤ l.d; have := hl.2; omega⟩
      · exact ⟨hb0, hb1, hh0, hh1, hlot, ht0, ht1, ht2, ht, hk0, by show 0 ≤ z.k1 + 1; omega, by show z.k0 + (z.k1 + 1) ≤ l.d; have := hl.2; omega⟩
    · exact ok2
/-! what the program tells of them -/
theorem ended_ok (y : Co) : c_has_ended [x.d, y.d] = .ok (.bl (!(x.b0 == y.b0))) := by
  simp [c_has_ended, den_has_ended, Co.d]
theorem handed_ok (y : Co) : c_has_handed [x.d, y.d] = .ok (.bl (!(x.b1 == y.b1))) := by
  simp [c_has_handed, den_has_handed, Co.d]
/-- a lot is handed out by a bringing alone -/
theorem b1_bring (e : Ev) (h : (mv l x e).b1 ≠ x.b1) : ∃ c, e = .bring c := by
  cases e with
  | bring c => exact ⟨c, rfl⟩
  | send => exact absurd rfl h
  | drop c => cases c <;> exact absurd rfl h
  | miss b => cases b <;> exact absurd rfl h
  | hear b =>
    refine absurd ?_ h
    show ((x.addK b (-1)).hears l b).b1 = x.b1
    unfold Co.hears
    split
    · split
      · cases b <;> rfl
      · split <;> cases b <;> rfl
    · cases b <;> rfl
theorem wrong_ok (e : Ev) : c_wrong_between [x.d, e.d, (mv l x e).d] = .ok (wr l x e).d := by
  have h1 := ended_ok (x := x) (mv l x e)
  have h2 := handed_ok (x := x) (mv l x e)
  unfold wr
  by_cases e0 : (mv l x e).b0 = x.b0
  · have e0' : (x.b0 == (mv l x e).b0) = true := by rw [e0]; exact beq_self_eq_true _
    rw [if_neg (fun z => z e0)]
    by_cases e1 : (mv l x e).b1 = x.b1
    · have e1' : (x.b1 == (mv l x e).b1) = true := by rw [e1]; exact beq_self_eq_true _
      rw [if_neg (fun z => z e1)]
      rw [e0'] at h1
      rw [e1'] at h2
      generalize (mv l x e).d = z at *
      simp only [Co.d] at h1 h2
      simp [c_wrong_between, den_wrong_between, Co.d, h1, h2, Wr.d]
    · have e1' : (x.b1 == (mv l x e).b1) = false := beq_eq_false_iff_ne.mpr (Ne.symm e1)
      rw [if_pos e1]
      rw [e0'] at h1
      rw [e1'] at h2
      obtain ⟨c, rfl⟩ := b1_bring e e1
      generalize (mv l x (.bring c)).d = z at *
      simp only [Co.d] at h1 h2
      cases c <;> cases hd : x.done <;> rw [hd] at h1 h2 <;> simp [c_wrong_between, den_wrong_between, Co.d, h1, h2, Wr.d, Ev.d, Cp.s, hd]
  · have e0' : (x.b0 == (mv l x e).b0) = false := beq_eq_false_iff_ne.mpr (Ne.symm e0)
    rw [if_pos e0]
    rw [e0'] at h1
    generalize (mv l x e).d = z at *
    simp only [Co.d] at h1 h2
    cases hd : x.done <;> rw [hd] at h1 <;> simp [c_wrong_between, den_wrong_between, Co.d, h1, Wr.d, hd]
theorem need_possible_ok (lo : l.Ok) (h : x.Ok l) (e : Ev) (hc : canB l x e = true) : c_need_possible [l.D, x.d, e.d] = .ok .non := by
  have h2 := can_ok h e
  rw [hc] at h2
  simp [c_need_possible, den_need_possible, need_contents_ok lo h, is_event_ok, h2]
end
section
variable {l : Lk} {x : Co}
theorem events_den : g_EVENTS = .tup (evs.map Ev.d) := rfl
def evOf (l : Lk) (x : Co) : List Ev := evs.filter (canB l x)
theorem events_of_ok (h : x.Ok l) : c_events_of [l.D, x.d] = .ok (.lst ((evOf l x).map Ev.d)) := by
  let I : DL.Env → Prop := fun ρ => ∃ y, ρ = [some l.D, some x.d, y]
  obtain ⟨ρ', e, y, rfl⟩ := lcL_filter (enc := Ev.d) (out := Ev.d) (tb := canB l x) (set := gN 2) (t := fTru (fCall c_can_happen (aCons (fVar 0) (aCons (fVar 1) (aCons (fVar 2) aNil))))) (f := fVar 2) (vs := [2]) I evs (by
    rintro a ha ρ ⟨y, rfl⟩
    have h1 := can_ok h a
    exact ⟨[some l.D, some x.d, some a.d], by simp, by simp [h1], fun _ => by simp, _, rfl⟩) [] [some l.D, some x.d, none] ⟨none, rfl⟩ (by decide)
  have e' : lcL (gN 2) (fTru (fCall c_can_happen (aCons (fVar 0) (aCons (fVar 1) (aCons (fVar 2) aNil))))) (fVar 2) [2] (evs.map Ev.d) [] [some l.D, some x.d, none] = .ok ((evOf l x).map Ev.d) [some l.D, some x.d, y] := e
  generalize hE : evs.map Ev.d = es at e'
  have hg : g_EVENTS = .tup es := by rw [← hE]; rfl
  refine (def_at (o := .rt (.lst ((evOf l x).map Ev.d)) [some l.D, some x.d, none]) rfl ?_).trans rfl
  simp [-lcL, den_events_of, hg, e']
def wI : Wr → Int
  | .none => 0
  | _ => 1
def keepsB (l : Lk) (x : Co) (e : Ev) : Bool := harmI l (mv l x e) + wI (wr l x e) == harmI l x
theorem keeps_ok (lo : l.Ok) (h : x.Ok l) (e : Ev) (hc : canB l x e = true) : c_keeps [l.D, x.d, e.d] = .ok (.bl (keepsB l x e)) := by
  have h1 := moved_ok h e
  have h2 := wrong_ok (l := l) (x := x) e
  have h3 := harm_of_ok (mv_ok lo h e hc)
  have h4 := harm_of_ok h
  cases hw : wr l x e <;> rw [hw] at h2 <;> simp [c_keeps, den_keeps, h1, h2, h3, h4, keepsB, hw, wI, Wr.d]
theorem keeping_ok (lo : l.Ok) (h : x.Ok l) (h1 : l.c ≤ l.p) (h2 : l.d ≤ l.q) : c_keeping_events [l.D, x.d] = .ok (.lst (((evOf l x).filter (keepsB l x)).map Ev.d)) := by
  have hn := need_sound_contents_ok lo h h1 h2
  have he := events_of_ok h
  let I : DL.Env → Prop := fun ρ => ∃ y, ρ = [some l.D, some x.d, y]
  obtain ⟨ρ', e, y, rfl⟩ := lcL_filter (enc := Ev.d) (out := Ev.d) (tb := keepsB l x) (set := gN 2) (t := fTru (fCall c_keeps (aCons (fVar 0) (aCons (fVar 1) (aCons (fVar 2) aNil))))) (f := fVar 2) (vs := [2]) I (evOf l x) (by
    rintro a ha ρ ⟨y, rfl⟩
    have h1 := keeps_ok lo h a (List.mem_filter.mp ha).2
    exact ⟨[some l.D, some x.d, some a.d], by simp, by simp [h1], fun _ => by simp, _, rfl⟩) [] [some l.D, some x.d, none] ⟨none, rfl⟩ (by
      have : (evOf l x).length ≤ 11 := List.length_filter_le _ _
      show 0 + _ ≤ _
      omega)
  rw [List.nil_append] at e
  generalize (evOf l x).map Ev.d = es at he e
  generalize ((evOf l x).filter (keepsB l x)).map Ev.d = fs at e
  refine (def_at (o := .rt (.lst fs) [some l.D, some x.d, none]) rfl ?_).trans rfl
  simp [-lcL, den_keeping_events, hn, he, e]
theorem harm_behind_ok (lo : l.Ok) (h : x.Ok l) (h1 : l.c ≤ l.p) (h2 : l.d ≤ l.q) (e : Ev) (hc : canB l x e = true) : c_harm_behind [l.D, x.d, e.d] = .ok (.int (harmI l (mv l x e))) := by
  have e1 := need_possible_ok lo h e hc
  have e2 : c_need_sound [l.D] = .ok .non := by simp [c_need_sound, den_need_sound, is_sound_ok lo h1 h2]
  have e3 := moved_ok h e
  have e4 := harm_of_ok (mv_ok lo h e hc)
  simp [c_harm_behind, den_harm_behind, e1, e2, e3, e4]
theorem is_worst_ok (lo : l.Ok) (h : x.Ok l) (h1 : l.c ≤ l.p) (h2 : l.d ≤ l.q) (e : Ev) : c_is_worst_event [l.D, x.d, e.d] = .ok (.bl (canB l x e && (decide (0 < harmI l x) && keepsB l x e))) := by
  have e1 : c_need_all [l.D, x.d, e.d] = .ok .non := by
    have e2 : c_need_sound [l.D] = .ok .non := by simp [c_need_sound, den_need_sound, is_sound_ok lo h1 h2]
    simp [c_need_all, den_need_all, need_contents_ok lo h, need_event_ok, e2]
  have e3 := can_ok h e
  have e4 := harm_of_ok h
  have e5 : c_begins_worst [l.D, x.d, e.d] = .ok (.bl (canB l x e && (decide (0 < harmI l x) && keepsB l x e))) := by
    cases hc : canB l x e
    · rw [hc] at e3
      simp [c_begins_worst, den_begins_worst, e3]
    · rw [hc] at e3
      have e6 := keeps_ok lo h e hc
      by_cases hp : 0 < harmI l x
      · simp [c_begins_worst, den_begins_worst, e3, e4, e6, hp]
      · simp [c_begins_worst, den_begins_worst, e3, e4, hp]
  simp [c_is_worst_event, den_is_worst_event, e1, e5]
end
end PG


set_option maxHeartbeats 1000000
namespace PG
open DL PySem L2
section
variable {l : Lk} {x : Co}
/-! the harm is never more behind an event, and less by a wrong step -/
theorem hb_mono : ∀ (e dn a o a' o' : Bool), (a' = true → a = true) → (o' = true → o = true) → harmB (e, dn, a', o') ≤ harmB (e, dn, a, o) := by decide
theorem hb_end : ∀ (e dn o o' : Bool), (e = true → o' = true → o = true) → harmB (!e, false, false, o') + (if dn = true then 0 else 1) ≤ harmB (e, dn, true, o) := by decide
theorem hb_own : ∀ (dn a o a' : Bool), harmB (true, dn, a', false) ≤ harmB (true, dn, a, o) := by decide
theorem hb_new : ∀ (dn a o a' : Bool), harmB (true, true, a', false) + (if dn = true then 1 else 0) ≤ harmB (false, dn, a, o) := by decide
theorem hb_made : ∀ (e dn a a' : Bool), (e = true → a' = a) → harmB (!e, dn, a', false) + 1 ≤ harmB (e, dn, a, true) := by decide
theorem hb_madeE : ∀ (e dn a a' : Bool), (e = true → a' = a) → harmB (!e, dn, a', false) + 1 = harmB (e, dn, a, true) := by decide
theorem harm_at {x : Co} {e dn a o : Bool} (h1 : (x.b0 == x.b1) = e) (h2 : x.done = dn) (h3 : decide (l.q ≤ ansI x) = a) (h4 : decide (l.p ≤ oldI x) = o) : harmI l x = harmB (e, dn, a, o) := by
  unfold harmI sigB
  rw [h1, h2, h3, h4]
theorem addT_ans (c : Cp) (n : Int) : ansI (x.addT c n) = ansI x := by cases c <;> rfl
theorem addK_old (b : Bool) (n : Int) : oldI (x.addK b n) = oldI x := by cases b <;> rfl
theorem addK_ans (hb : x.b0 = 0 ∨ x.b0 = 1) (b : Bool) (n : Int) : ansI (x.addK b n) = ansI x + if bI b = x.b0 then n else 0 := by
  rcases hb with hb | hb <;> cases b <;> simp [ansI, Co.addK, hb] <;> omega
theorem addT_old (hb : x.b1 = 0 ∨ x.b1 = 1) (c : Cp) (n : Int) (hc : c.isNew = false) : oldI (x.addT c n) = oldI x + if x.bitOf c = x.b1 then 0 else n := by
  rcases hb with hb | hb <;> cases c <;> simp [oldI, Co.addT, hb, Co.bitOf, Cp.isNew] at hc ⊢ <;> omega
theorem addT_oldN (n : Int) : oldI (x.addT .new n) = oldI x := rfl
theorem old_room (h : x.Ok l) : ∀ c, 0 < x.cnt c → ∀ y : Co, y.t1 = (x.addT c (-1)).t1 → y.t2 = (x.addT c (-1)).t2 → y.lot = .none → (c.isNew = true ∨ x.bitOf c = y.b1) → (y.b1 = 0 ∨ y.b1 = 1) → oldI y < l.c := by
  intro c hc y h1 h2 h3 h4 h5
  have := h.t; have := h.t0; have := h.t1; have := h.t2
  unfold oldI
  rw [h1, h2, h3]
  simp only [Lot.kept]
  rcases h5 with hb | hb <;> rw [hb] at h4 <;> cases c <;> simp [Co.cnt, Co.addT, Cp.isNew, Co.bitOf] at hc h4 ⊢ <;> omega
theorem kept_0 (h : x.Ok l) : 0 ≤ x.lot.kept := by
  have := h.lot
  cases hx : x.lot with
  | none => exact Int.le_refl 0
  | old k => rw [hx] at this; exact Int.le_of_lt this.1
  | new k => exact Int.le_refl 0
theorem more_old : x.lot.more false = x.lot.kept + 1 := by cases x.lot <;> rfl
theorem ne_bit {a b c : Int} (ha : a = 0 ∨ a = 1) (hb : b = 0 ∨ b = 1) (hc : c = 0 ∨ c = 1) (h : a ≠ b) : (c == a) = !(c == b) := by
  rcases ha with rfl | rfl <;> rcases hb with rfl | rfl <;> rcases hc with rfl | rfl <;> first | rfl | exact absurd rfl h
theorem le_mono {y : Co} (he : (y.b0 == y.b1) = (x.b0 == x.b1)) (hd : y.done = x.done) (ha : l.q ≤ ansI y → l.q ≤ ansI x) (ho : l.p ≤ oldI y → l.p ≤ oldI x) : harmI l y ≤ harmI l x := by
  rw [harm_at (x := x) rfl rfl rfl rfl, harm_at (x := y) he hd rfl rfl]
  exact hb_mono _ _ _ _ _ _ (fun z => decide_eq_true (ha (of_decide_eq_true z))) (fun z => decide_eq_true (ho (of_decide_eq_true z)))
theorem wr_none {e : Ev} (h0 : (mv l x e).b0 = x.b0) (h1 : (mv l x e).b1 = x.b1) : wr l x e = .none := by
  unfold wr
  rw [if_neg (fun z => z h0), if_neg (fun z => z h1)]
theorem le_add0 {a b : Int} (h : a ≤ b) : a + wI .none ≤ b := by show a + 0 ≤ b; omega
theorem addT_bits (c : Cp) (n : Int) : (x.addT c n).b0 = x.b0 ∧ (x.addT c n).b1 = x.b1 ∧ (x.addT c n).done = x.done := by cases c <;> exact ⟨rfl, rfl, rfl⟩
theorem addK_bits (b : Bool) (n : Int) : (x.addK b n).b0 = x.b0 ∧ (x.addK b n).b1 = x.b1 ∧ (x.addK b n).done = x.done := by cases b <;> exact ⟨rfl, rfl, rfl⟩
theorem bI_dec {a : Int} (h : a = 0 ∨ a = 1) : bI (decide (a = 1)) = a := by rcases h with rfl | rfl <;> rfl
theorem harm_le (h : x.Ok l) (h1 : l.c ≤ l.p) (h2 : l.d ≤ l.q) (e : Ev) (hc : canB l x e = true) : harmI l (mv l x e) + wI (wr l x e) ≤ harmI l x := by
  have hk0 := h.k0; have hk1 := h.k1; have hk := h.k
  cases e with
  | send =>
    rw [wr_none rfl rfl]
    exact le_add0 (le_mono rfl rfl id id)
  | drop c =>
    obtain ⟨q1, q2, q3⟩ := addT_bits (x := x) c (-1)
    rw [wr_none (e := .drop c) q1 q2]
    refine le_add0 (le_mono (by show ((x.addT c (-1)).b0 == (x.addT c (-1)).b1) = _; rw [q1, q2]) q3 (fun z => ?_) (fun z => ?_))
    · rw [← addT_ans c (-1)]; exact z
    · have z : l.p ≤ oldI (x.addT c (-1)) := z
      cases hn : c.isNew with
      | true => cases c <;> first | exact z | cases hn
      | false =>
        rw [addT_old h.b1 c (-1) hn] at z
        split at z <;> omega
  | miss b =>
    obtain ⟨q1, q2, q3⟩ := addK_bits (x := x) b (-1)
    rw [wr_none (e := .miss b) q1 q2]
    refine le_add0 (le_mono (by show ((x.addK b (-1)).b0 == (x.addK b (-1)).b1) = _; rw [q1, q2]) q3 (fun z => ?_) (fun z => ?_))
    · have z : l.q ≤ ansI (x.addK b (-1)) := z
      rw [addK_ans h.b0] at z
      split at z <;> omega
    · rw [← addK_old b (-1)]; exact z
  | hear b =>
    have hc := of_decide_eq_true hc
    obtain ⟨q1, q2, q3⟩ := addK_bits (x := x) b (-1)
    have qa := addK_ans h.b0 b (-1)
    have qo := addK_old (x := x) b (-1)
    have e0 : mv l x (.hear b) = (x.addK b (-1)).hears l b := rfl
    have hh := h.h1
    by_cases hb : bI b = x.b0
    · by_cases hq : x.h + 1 < l.q
      · have e1 : mv l x (.hear b) = { x.addK b (-1) with h := x.h + 1 } := by
          have hhh : (x.addK b (-1)).h = x.h := by cases b <;> rfl
          rw [e0]; unfold Co.hears
          rw [if_pos (by rw [q1]; exact hb), hhh, if_pos hq]
        rw [wr_none (e := .hear b) (by rw [e1]; exact q1) (by rw [e1]; exact q2), e1]
        refine le_add0 (le_mono (by show ((x.addK b (-1)).b0 == (x.addK b (-1)).b1) = _; rw [q1, q2]) q3 (fun z => ?_) (fun z => ?_))
        · have e2 : ansI { x.addK b (-1) with h := x.h + 1 } = ansI (x.addK b (-1)) + 1 := by
            have : (x.addK b (-1)).h = x.h := by cases b <;> rfl
            unfold ansI
            simp only [this]
            omega
          rw [e2, qa, if_pos hb] at z
          omega
        · rw [← qo]; exact z
      · -- the turn ends
        have hhh : (x.addK b (-1)).h = x.h := by cases b <;> rfl
        have hA : l.q ≤ ansI x := by
          unfold ansI
          rcases h.b0 with e | e <;> rw [e] at hb ⊢ <;> cases b <;> simp at hb ⊢ <;> simp only [Co.ans] at hc <;> omega
        generalize hy : mv l x (.hear b) = y
        rw [e0] at hy
        unfold Co.hears at hy
        rw [q1, if_pos hb, hhh, if_neg hq] at hy
        have yb0 : y.b0 = 1 - x.b0 := by
          rcases h.b0 with e | e <;> rw [e] at hy ⊢ <;> simp at hy <;> rw [← hy] <;> rfl
        have yb1 : y.b1 = x.b1 := by
          rw [← q2, ← hy]
          split <;> rfl
        have yd : y.done = false := by
          rw [← hy]
          split <;> rfl
        have ya : ¬ l.q ≤ ansI y := by
          rw [← hy]
          rcases h.b0 with e | e <;> rw [e] at hb ⊢ <;> cases b <;> simp at hb <;> simp [ansI, Co.addK] <;> simp only [Co.ans] at hc <;> omega
        have yo : (x.b0 == x.b1) = true → (l.p ≤ oldI y → l.p ≤ oldI x) := by
          intro e z
          have e := eq_of_beq e
          have hlot := h.lot
          have hl : x.lot.aged.kept = x.lot.kept := by
            cases hx : x.lot with
            | none => rfl
            | old k => rfl
            | new k => rw [hx] at hlot; exact absurd e hlot.2.2
          have : oldI y = oldI x := by
            rw [← hy]
            have e3 : (x.addK b (-1)).lot = x.lot := by cases b <;> rfl
            have e4 : (x.addK b (-1)).t1 = x.t1 ∧ (x.addK b (-1)).t2 = x.t2 := by cases b <;> exact ⟨rfl, rfl⟩
            rcases h.b0 with e0 | e0 <;> rw [e0] at e ⊢ <;> simp [oldI, q2, ← e, e3, e4, hl]
          rw [← this]; exact z
        have ev : (y.b0 == y.b1) = !(x.b0 == x.b1) := by
          rw [yb0, yb1]
          rcases h.b0 with e | e <;> rcases h.b1 with e' | e' <;> rw [e, e'] <;> rfl
        have w : wr l x (.hear b) = if x.done = true then .none else .lost := by
          unfold wr
          rw [e0]
          unfold Co.hears
          rw [q1, if_pos hb, hhh, if_neg hq, hy, yb0, if_pos (by have := h.b0; omega)]
        rw [w, harm_at (x := y) ev yd (decide_eq_false ya) rfl, harm_at (x := x) rfl rfl (decide_eq_true hA) rfl]
        have := hb_end (x.b0 == x.b1) x.done (decide (l.p ≤ oldI x)) (decide (l.p ≤ oldI y)) (fun e z => decide_eq_true (yo e (of_decide_eq_true z)))
        have w2 : wI (if x.done = true then Wr.none else Wr.lost) = if x.done = true then 0 else 1 := by cases x.done <;> rfl
        rw [w2]
        exact this
    · have e1 : mv l x (.hear b) = x.addK b (-1) := by
        rw [e0]; unfold Co.hears; rw [q1, if_neg hb]
      rw [wr_none (e := .hear b) (by rw [e1]; exact q1) (by rw [e1]; exact q2), e1]
      refine le_add0 (le_mono (by rw [q1, q2]) q3 (fun z => ?_) (fun z => ?_))
      · rw [qa, if_neg hb] at z
        omega
      · rw [← qo]; exact z
  | bring c =>
    have hc := of_decide_eq_true hc
    obtain ⟨q1, q2, q3⟩ := addT_bits (x := x) c (-1)
    have qa := addT_ans (x := x) c (-1)
    have hbit := bitOf_01 h.b0 c
    have room := old_room h c hc
    have kp := kept_0 h
    have ql : (x.addT c (-1)).lot = x.lot := by cases c <;> rfl
    have e0 : mv l x (.bring c) = ((x.addT c (-1)).take l (x.bitOf c) c.isNew).answer l (x.bitOf c) := rfl
    by_cases hb : x.bitOf c = x.b1
    · -- of the receiver's own bit
      generalize hz : ({ x.addT c (-1) with lot := .none } : Co) = z
      have e1 : (x.addT c (-1)).take l (x.bitOf c) c.isNew = z := by
        unfold Co.take; rw [if_pos (by rw [q2]; exact hb)]; exact hz
      rw [e1] at e0
      have zb0 : z.b0 = x.b0 := by rw [← hz]; exact q1
      have zb1 : z.b1 = x.b1 := by rw [← hz]; exact q2
      have zd : z.done = x.done := by rw [← hz]; exact q3
      have za : ansI z = ansI x := by rw [← qa, ← hz]; rfl
      have zo : oldI z < l.c := room z (by rw [← hz]) (by rw [← hz]) (by rw [← hz]) (.inr (by rw [zb1]; exact hb)) (by rw [zb1]; exact h.b1)
      have yb : ∀ y : Co, y = z.answer l (x.bitOf c) → y.b0 = x.b0 ∧ y.b1 = x.b1 ∧ y.done = x.done ∧ oldI y = oldI z ∧ (x.b0 ≠ x.b1 → ansI y = ansI x) := by
        intro y hy
        unfold Co.answer at hy
        split at hy
        · rw [hy]
          obtain ⟨r1, r2, r3⟩ := addK_bits (x := z) (decide (x.bitOf c = 1)) 1
          refine ⟨r1.trans zb0, r2.trans zb1, r3.trans zd, addK_old _ _, fun hne => ?_⟩
          rw [addK_ans (by rw [zb0]; exact h.b0), bI_dec hbit, if_neg (by rw [zb0, hb]; exact Ne.symm hne), za]
          omega
        · rw [hy]
          exact ⟨zb0, zb1, zd, rfl, fun _ => za⟩
      obtain ⟨y1, y2, y3, y4, y5⟩ := yb _ e0
      rw [wr_none (e := .bring c) y1 y2]
      refine le_add0 ?_
      by_cases hev : x.b0 = x.b1
      · have ev : (x.b0 == x.b1) = true := by rw [hev]; exact beq_self_eq_true _
        rw [harm_at (x := mv l x (.bring c)) (e := true) (by rw [y1, y2]; exact ev) y3 rfl (decide_eq_false (by rw [y4]; omega)), harm_at (x := x) ev rfl rfl rfl]
        exact hb_own _ _ _ _
      · refine le_mono (by rw [y1, y2]) y3 (fun w => by rw [← y5 hev]; exact w) (fun w => ?_)
        rw [y4] at w
        omega
    · by_cases hm : x.lot.more c.isNew < l.p
      · -- a lot grows
        generalize hz : ({ x.addT c (-1) with lot := .of c.isNew (x.lot.more c.isNew) } : Co) = z
        have e1 : (x.addT c (-1)).take l (x.bitOf c) c.isNew = z := by
          unfold Co.take; rw [if_neg (by rw [q2]; exact hb), if_pos (by rw [ql]; exact hm), ← hz, ql]
        have zb1 : z.b1 = x.b1 := by rw [← hz]; exact q2
        have e2 : mv l x (.bring c) = z := by
          rw [e0, e1]; unfold Co.answer; rw [if_neg (fun w => hb (by rw [← zb1]; exact w.1.symm))]
        have zb0 : z.b0 = x.b0 := by rw [← hz]; exact q1
        have zd : z.done = x.done := by rw [← hz]; exact q3
        have za : ansI z = ansI x := by rw [← qa, ← hz]; rfl
        have zo : oldI z ≤ oldI x := by
          cases hn : c.isNew with
          | true =>
            have : c = .new := by cases c <;> first | rfl | cases hn
            subst this
            rw [← hz, hn]
            show (if x.b1 = 0 then x.t2 else x.t1) + (0 : Int) ≤ (if x.b1 = 0 then x.t2 else x.t1) + x.lot.kept
            exact Int.add_le_add_left kp _
          | false =>
            have e3 := addT_old h.b1 c (-1) hn
            rw [if_neg hb] at e3
            have e4 : oldI z = oldI (x.addT c (-1)) - x.lot.kept + (x.lot.kept + 1) := by
              rw [← hz, hn, more_old]
              simp only [oldI, Lot.of, Lot.kept, ql, Bool.false_eq_true, if_false]
              omega
            omega
        rw [wr_none (e := .bring c) (by rw [e2]; exact zb0) (by rw [e2]; exact zb1), e2]
        exact le_add0 (le_mono (by rw [zb0, zb1]) zd (fun w => by rw [← za]; exact w) (fun w => by omega))
      · -- a lot is handed out
        generalize hz : ({ x.addT c (-1) with b1 := x.bitOf c, lot := .none, done := (x.addT c (-1)).done || c.isNew } : Co) = z
        have e1 : (x.addT c (-1)).take l (x.bitOf c) c.isNew = z := by
          unfold Co.take; rw [if_neg (by rw [q2]; exact hb), if_neg (by rw [ql]; exact hm)]; exact hz
        rw [e1] at e0
        have zb0 : z.b0 = x.b0 := by rw [← hz]; exact q1
        have zb1 : z.b1 = x.bitOf c := by rw [← hz]
        have zd : z.done = (x.done || c.isNew) := by rw [← hz, q3]
        have zo : oldI z < l.c := room z (by rw [← hz]) (by rw [← hz]) (by rw [← hz]) (.inr zb1.symm) (by rw [zb1]; exact hbit)
        have yb : ∀ y : Co, y = z.answer l (x.bitOf c) → y.b0 = x.b0 ∧ y.b1 = x.bitOf c ∧ y.done = (x.done || c.isNew) ∧ oldI y = oldI z ∧ (x.b0 ≠ x.bitOf c → ansI y = ansI x) := by
          have za : ansI z = ansI x := by rw [← qa, ← hz]; rfl
          intro y hy
          unfold Co.answer at hy
          split at hy
          · rw [hy]
            obtain ⟨r1, r2, r3⟩ := addK_bits (x := z) (decide (x.bitOf c = 1)) 1
            refine ⟨r1.trans zb0, r2.trans zb1, r3.trans zd, addK_old _ _, fun hne => ?_⟩
            rw [addK_ans (by rw [zb0]; exact h.b0), bI_dec hbit, if_neg (by rw [zb0]; exact Ne.symm hne), za]
            omega
          · rw [hy]
            exact ⟨zb0, zb1, zd, rfl, fun _ => za⟩
        obtain ⟨y1, y2, y3, y4, y5⟩ := yb _ e0
        have ev : ((mv l x (.bring c)).b0 == (mv l x (.bring c)).b1) = !(x.b0 == x.b1) := by
          rw [y1, y2]; exact ne_bit hbit h.b1 h.b0 hb
        have yo : decide (l.p ≤ oldI (mv l x (.bring c))) = false := decide_eq_false (by rw [y4]; omega)
        have w0 : wr l x (.bring c) = if c.isNew = true then (if x.done = true then .twice else .none) else .made := by
          unfold wr
          rw [if_neg (fun w => w y1), if_pos (by rw [y2]; exact hb)]
          cases c <;> rfl
        rw [w0]
        cases hn : c.isNew with
        | true =>
          have : c = .new := by cases c <;> first | rfl | cases hn
          subst this
          have hu : (x.b0 == x.b1) = false := beq_eq_false_iff_ne.mpr hb
          rw [hu] at ev
          rw [hn, Bool.or_true] at y3
          rw [harm_at (x := mv l x (.bring .new)) ev y3 rfl yo, harm_at (x := x) hu rfl rfl rfl]
          have := hb_new x.done (decide (l.q ≤ ansI x)) (decide (l.p ≤ oldI x)) (decide (l.q ≤ ansI (mv l x (.bring .new))))
          have w2 : wI (if x.done = true then Wr.twice else Wr.none) = if x.done = true then 1 else 0 := by cases x.done <;> rfl
          rw [if_pos rfl, w2]
          exact this
        | false =>
          rw [hn, Bool.or_false] at y3
          have hO : l.p ≤ oldI x := by
            rw [hn, more_old] at hm
            have e3 := addT_old h.b1 c (-1) hn
            have e4 : x.lot.kept + 1 ≤ oldI x := by
              have := h.t1; have := h.t2
              unfold oldI
              rcases h.b1 with e | e <;> rw [e] at hb ⊢ <;> cases c <;> simp [Co.bitOf, Cp.isNew, Co.cnt] at hb hn hc ⊢ <;> omega
            omega
          rw [harm_at (x := mv l x (.bring c)) ev y3 rfl yo, harm_at (x := x) rfl rfl rfl (decide_eq_true hO)]
          have := hb_made (x.b0 == x.b1) x.done (decide (l.q ≤ ansI x)) (decide (l.q ≤ ansI (mv l x (.bring c)))) (fun e => by
            have e := eq_of_beq e
            rw [y5 (by rw [e]; exact Ne.symm hb)])
          rw [if_neg Bool.false_ne_true]
          exact this
theorem le_same {y : Co} (he : (y.b0 == y.b1) = (x.b0 == x.b1)) (hd : y.done = x.done) (ha : ansI y = ansI x) (ho : oldI y = oldI x) : harmI l y = harmI l x := by
  rw [harm_at (x := x) rfl rfl rfl rfl, harm_at (x := y) he hd rfl rfl, ha, ho]
/-- an old copy of the bit unlike the receiver's: nothing of the worst is missed -/
theorem bring_old_eq (h : x.Ok l) (h1 : l.c ≤ l.p) (c : Cp) (hc : canB l x (.bring c) = true) (hn : c.isNew = false) (hb : ¬ x.bitOf c = x.b1) : harmI l (mv l x (.bring c)) + wI (wr l x (.bring c)) = harmI l x := by
  have hc := of_decide_eq_true hc
  obtain ⟨q1, q2, q3⟩ := addT_bits (x := x) c (-1)
  have qa := addT_ans (x := x) c (-1)
  have hbit := bitOf_01 h.b0 c
  have room := old_room h c hc
  have kp := kept_0 h
  have ql : (x.addT c (-1)).lot = x.lot := by cases c <;> rfl
  have e0 : mv l x (.bring c) = ((x.addT c (-1)).take l (x.bitOf c) c.isNew).answer l (x.bitOf c) := rfl
  by_cases hm : x.lot.more c.isNew < l.p
  · -- a lot grows
    generalize hz : ({ x.addT c (-1) with lot := .of c.isNew (x.lot.more c.isNew) } : Co) = z
    have e1 : (x.addT c (-1)).take l (x.bitOf c) c.isNew = z := by
      unfold Co.take; rw [if_neg (by rw [q2]; exact hb), if_pos (by rw [ql]; exact hm), ← hz, ql]
    have zb1 : z.b1 = x.b1 := by rw [← hz]; exact q2
    have e2 : mv l x (.bring c) = z := by
      rw [e0, e1]; unfold Co.answer; rw [if_neg (fun w => hb (by rw [← zb1]; exact w.1.symm))]
    have zb0 : z.b0 = x.b0 := by rw [← hz]; exact q1
    have zd : z.done = x.done := by rw [← hz]; exact q3
    have za : ansI z = ansI x := by rw [← qa, ← hz]; rfl
    have zo : oldI z = oldI x := by
      have e3 := addT_old h.b1 c (-1) hn
      rw [if_neg hb] at e3
      have e4 : oldI z = oldI (x.addT c (-1)) - x.lot.kept + (x.lot.kept + 1) := by
        rw [← hz, hn, more_old]
        simp only [oldI, Lot.of, Lot.kept, ql, Bool.false_eq_true, if_false]
        omega
      omega
    rw [wr_none (e := .bring c) (by rw [e2]; exact zb0) (by rw [e2]; exact zb1), e2]
    rw [le_same (by rw [zb0, zb1]) zd za zo]
    exact Int.add_zero _
  · -- a lot is handed out
    generalize hz : ({ x.addT c (-1) with b1 := x.bitOf c, lot := .none, done := (x.addT c (-1)).done || c.isNew } : Co) = z
    have e1 : (x.addT c (-1)).take l (x.bitOf c) c.isNew = z := by
      unfold Co.take; rw [if_neg (by rw [q2]; exact hb), if_neg (by rw [ql]; exact hm)]; exact hz
    rw [e1] at e0
    have zb0 : z.b0 = x.b0 := by rw [← hz]; exact q1
    have zb1 : z.b1 = x.bitOf c := by rw [← hz]
    have zd : z.done = (x.done || c.isNew) := by rw [← hz, q3]
    have zo : oldI z < l.c := room z (by rw [← hz]) (by rw [← hz]) (by rw [← hz]) (.inr zb1.symm) (by rw [zb1]; exact hbit)
    have yb : ∀ y : Co, y = z.answer l (x.bitOf c) → y.b0 = x.b0 ∧ y.b1 = x.bitOf c ∧ y.done = (x.done || c.isNew) ∧ oldI y = oldI z ∧ (x.b0 ≠ x.bitOf c → ansI y = ansI x) := by
      have za : ansI z = ansI x := by rw [← qa, ← hz]; rfl
      intro y hy
      unfold Co.answer at hy
      split at hy
      · rw [hy]
        obtain ⟨r1, r2, r3⟩ := addK_bits (x := z) (decide (x.bitOf c = 1)) 1
        refine ⟨r1.trans zb0, r2.trans zb1, r3.trans zd, addK_old _ _, fun hne => ?_⟩
        rw [addK_ans (by rw [zb0]; exact h.b0), bI_dec hbit, if_neg (by rw [zb0]; exact Ne.symm hne), za]
        omega
      · rw [hy]
        exact ⟨zb0, zb1, zd, rfl, fun _ => za⟩
    obtain ⟨y1, y2, y3, y4, y5⟩ := yb _ e0
    have ev : ((mv l x (.bring c)).b0 == (mv l x (.bring c)).b1) = !(x.b0 == x.b1) := by
      rw [y1, y2]; exact ne_bit hbit h.b1 h.b0 hb
    have yo : decide (l.p ≤ oldI (mv l x (.bring c))) = false := decide_eq_false (by rw [y4]; omega)
    have w0 : wr l x (.bring c) = if c.isNew = true then (if x.done = true then .twice else .none) else .made := by
      unfold wr
      rw [if_neg (fun w => w y1), if_pos (by rw [y2]; exact hb)]
      cases c <;> rfl
    rw [w0]
    rw [hn, Bool.or_false] at y3
    have hO : l.p ≤ oldI x := by
      rw [hn, more_old] at hm
      have e3 := addT_old h.b1 c (-1) hn
      have e4 : x.lot.kept + 1 ≤ oldI x := by
        have := h.t1; have := h.t2
        unfold oldI
        rcases h.b1 with e | e <;> rw [e] at hb ⊢ <;> cases c <;> simp [Co.bitOf, Cp.isNew, Co.cnt] at hb hn hc ⊢ <;> omega
      omega
    rw [harm_at (x := mv l x (.bring c)) ev y3 rfl yo, harm_at (x := x) rfl rfl rfl (decide_eq_true hO)]
    have := hb_madeE (x.b0 == x.b1) x.done (decide (l.q ≤ ansI x)) (decide (l.q ≤ ansI (mv l x (.bring c)))) (fun e => by
      have e := eq_of_beq e
      rw [y5 (by rw [e]; exact Ne.symm hb)])
    rw [hn, if_neg Bool.false_ne_true]
    exact this

theorem keeps_of {e : Ev} (h : harmI l (mv l x e) + wI (wr l x e) = harmI l x) : keepsB l x e = true := by
  unfold keepsB
  rw [h]
  exact beq_self_eq_true _
theorem keeps_same {e : Ev} (h0 : (mv l x e).b0 = x.b0) (h1 : (mv l x e).b1 = x.b1) (hd : (mv l x e).done = x.done) (ha : ansI (mv l x e) = ansI x) (ho : oldI (mv l x e) = oldI x) : keepsB l x e = true := by
  refine keeps_of ?_
  rw [wr_none h0 h1, le_same (by rw [h0, h1]) hd ha ho]
  exact Int.add_zero _
/-- something keeps the worst -/
theorem some_keeps (lo : l.Ok) (h : x.Ok l) (h1 : l.c ≤ l.p) : ∃ e, e ∈ evs ∧ canB l x e = true ∧ keepsB l x e = true := by
  have := lo.c; have := h.t0; have := h.t1; have := h.t2; have := h.t
  by_cases hs : x.t0 + x.t1 + x.t2 < l.c
  · exact ⟨.send, by decide, decide_eq_true hs, keeps_same rfl rfl rfl rfl rfl⟩
  · by_cases h0 : 0 < x.t0
    · exact ⟨.drop .new, by decide, decide_eq_true h0, keeps_same rfl rfl rfl rfl rfl⟩
    · have pick : ∀ c : Cp, c.isNew = false → 0 < x.cnt c → ∃ e, e ∈ evs ∧ canB l x e = true ∧ keepsB l x e = true := by
        intro c hn hc
        by_cases hb : x.bitOf c = x.b1
        · obtain ⟨q1, q2, q3⟩ := addT_bits (x := x) c (-1)
          refine ⟨.drop c, by cases c <;> decide, decide_eq_true hc, keeps_same q1 q2 q3 (addT_ans c (-1)) ?_⟩
          show oldI (x.addT c (-1)) = oldI x
          rw [addT_old h.b1 c (-1) hn, if_pos hb]
          omega
        · exact ⟨.bring c, by cases c <;> decide, decide_eq_true hc, keeps_of (bring_old_eq h h1 c (decide_eq_true hc) hn hb)⟩
      by_cases ht : 0 < x.t1
      · exact pick .zero rfl ht
      · exact pick .one rfl (show 0 < x.t2 by omega)
end
end PG


namespace PG
open DL PySem L2
section
variable {l : Lk} {x : Co}
/-! the three ways of an event -/
theorem mv_ways (h : x.Ok l) (e : Ev) :
    ((mv l x e).b0 = x.b0 ∧ (mv l x e).b1 = x.b1 ∧ (mv l x e).done = x.done) ∨
    ((mv l x e).b0 = 1 - x.b0 ∧ (mv l x e).b1 = x.b1 ∧ (mv l x e).done = false ∧ ∃ b, e = .hear b) ∨
    ((mv l x e).b0 = x.b0 ∧ ∃ c, e = .bring c ∧ x.bitOf c ≠ x.b1 ∧ (mv l x e).b1 = x.bitOf c ∧ (mv l x e).done = (x.done || c.isNew)) := by
  cases e with
  | send => exact .inl ⟨rfl, rfl, rfl⟩
  | drop c => exact .inl (addT_bits c (-1))
  | miss b => exact .inl (addK_bits b (-1))
  | hear b =>
    obtain ⟨q1, q2, q3⟩ := addK_bits (x := x) b (-1)
    have e0 : mv l x (.hear b) = (x.addK b (-1)).hears l b := rfl
    rw [e0]
    unfold Co.hears
    split
    · split
      · exact .inl ⟨q1, q2, q3⟩
      · split
        · next h0 => exact .inr (.inl ⟨by rw [q1] at h0; rw [h0]; rfl, q2, rfl, b, rfl⟩)
        · next h0 => exact .inr (.inl ⟨by rw [q1] at h0; have := h.b0; rw [this.resolve_left h0]; rfl, q2, rfl, b, rfl⟩)
    · exact .inl ⟨q1, q2, q3⟩
  | bring c =>
    obtain ⟨q1, q2, q3⟩ := addT_bits (x := x) c (-1)
    have ans : ∀ z : Co, (z.answer l (x.bitOf c)).b0 = z.b0 ∧ (z.answer l (x.bitOf c)).b1 = z.b1 ∧ (z.answer l (x.bitOf c)).done = z.done := by
      intro z
      unfold Co.answer
      split
      · exact addK_bits _ 1
      · exact ⟨rfl, rfl, rfl⟩
    have e0 : mv l x (.bring c) = ((x.addT c (-1)).take l (x.bitOf c) c.isNew).answer l (x.bitOf c) := rfl
    obtain ⟨a1, a2, a3⟩ := ans ((x.addT c (-1)).take l (x.bitOf c) c.isNew)
    rw [e0, a1, a2, a3]
    unfold Co.take
    split
    · exact .inl ⟨q1, q2, q3⟩
    · next hb =>
      split
      · exact .inl ⟨q1, q2, q3⟩
      · exact .inr (.inr ⟨q1, c, rfl, by rw [q2] at hb; exact hb, rfl, by show (_ || _) = _; rw [q3]⟩)
/-! odd and even -/
def odd (x : Co) : Bool := !((x.b0 == x.b1) == x.done)
theorem odd_step (h : x.Ok l) (e : Ev) : (!(odd (mv l x e) == odd x)) = decide (wr l x e ≠ .none) := by
  rcases mv_ways h e with ⟨h1, h2, h3⟩ | ⟨h1, h2, h3, b, rfl⟩ | ⟨h1, c, rfl, hb, h2, h3⟩
  · rw [wr_none h1 h2]
    unfold odd
    rw [h1, h2, h3]
    simp
  · have ne : (1 - x.b0) ≠ x.b0 := by have := h.b0; omega
    have w : wr l x (.hear b) = if x.done = true then .none else .lost := by
      unfold wr
      rw [h1, if_pos ne]
    rw [w]
    unfold odd
    rw [h1, h2, h3]
    have fl : (1 - x.b0 == x.b1) = !(x.b0 == x.b1) := by
      rcases h.b0 with e | e <;> rcases h.b1 with e' | e' <;> rw [e, e'] <;> rfl
    rw [fl]
    cases x.done <;> cases (x.b0 == x.b1) <;> rfl
  · have w : wr l x (.bring c) = if c.isNew = true then (if x.done = true then .twice else .none) else .made := by
      unfold wr
      rw [if_neg (fun z => z h1), if_pos (by rw [h2]; exact hb)]
      cases c <;> rfl
    rw [w]
    unfold odd
    rw [h1, h2, h3]
    have fl : (x.b0 == x.bitOf c) = !(x.b0 == x.b1) := by
      rw [ne_bit (bitOf_01 h.b0 c) h.b1 h.b0 hb]
    rw [fl]
    cases hn : c.isNew with
    | true =>
      have : c = .new := by cases c <;> first | rfl | cases hn
      subst this
      have hu : (x.b0 == x.b1) = false := beq_eq_false_iff_ne.mpr hb
      rw [hu]
      cases x.done <;> rfl
    | false => cases x.done <;> cases (x.b0 == x.b1) <;> rfl
theorem is_odd_of_ok : c_is_odd_of [x.d] = .ok (.bl (odd x)) := by
  simp [c_is_odd_of, den_is_odd_of, Co.d, odd]
theorem is_odd_ok (lo : l.Ok) (h : x.Ok l) : c_is_odd [l.D, x.d] = .ok (.bl (odd x)) := by
  simp [c_is_odd, den_is_odd, need_contents_ok lo h, is_odd_of_ok]
theorem odd_between_ok {y : Co} (lo : l.Ok) (h : x.Ok l) (hy : y.Ok l) : c_odd_between [l.D, x.d, y.d] = .ok (.bl (!(odd x == odd y))) := by
  simp [c_odd_between, den_odd_between, need_contents_ok lo h, fits_ok hy, is_odd_of_ok]
/-! runs -/
def goes (l : Lk) : Co → List Ev → Bool
  | _, [] => true
  | x, e :: r => canB l x e && goes l (mv l x e) r
def aft (l : Lk) : Co → List Ev → Co
  | x, [] => x
  | x, e :: r => aft l (mv l x e) r
/-- the wrong steps of a run -/
def wrs (l : Lk) : Co → List Ev → List Wr
  | _, [] => []
  | x, e :: r => (if wr l x e = .none then [] else [wr l x e]) ++ wrs l (mv l x e) r
theorem aft_ok (lo : l.Ok) : ∀ (es : List Ev) {x : Co}, x.Ok l → goes l x es = true → (aft l x es).Ok l
  | [], _, h, _ => h
  | e :: r, _, h, g => by
    simp only [goes, Bool.and_eq_true] at g
    exact aft_ok lo r (mv_ok lo h e g.1) g.2
theorem odd_run (lo : l.Ok) : ∀ (es : List Ev) {x : Co}, x.Ok l → goes l x es = true → (!(odd x == odd (aft l x es))) = ((wrs l x es).length % 2 == 1)
  | [], x, h, _ => by simp [aft, wrs]
  | e :: r, x, h, g => by
    simp only [goes, Bool.and_eq_true] at g
    have ih := odd_run lo r (mv_ok lo h e g.1) g.2
    have st := odd_step h e
    simp only [aft, wrs]
    by_cases hw : wr l x e = .none
    · rw [hw] at st ⊢
      simp only [if_true, List.nil_append]
      rw [← ih]
      have : odd (mv l x e) = odd x := by
        revert st
        cases odd (mv l x e) <;> cases odd x <;> simp
      rw [this]
    · rw [if_neg hw, List.singleton_append, List.length_cons]
      have : odd (mv l x e) = !odd x := by
        revert st
        cases odd (mv l x e) <;> cases odd x <;> simp [hw]
      rw [this] at ih
      have e2 : ((wrs l (mv l x e) r).length + 1) % 2 = 1 - (wrs l (mv l x e) r).length % 2 := by omega
      rw [e2]
      have e3 : (wrs l (mv l x e) r).length % 2 = 0 ∨ (wrs l (mv l x e) r).length % 2 = 1 := by omega
      rcases e3 with e3 | e3 <;> rw [e3] at ih ⊢ <;> revert ih <;> cases odd x <;> cases odd (aft l (mv l x e) r) <;> simp
end
end PG


set_option maxHeartbeats 1000000
namespace PG
open DL PySem L2
/-! ### events as data: shown, weighed, sorted -/
theorem ev_ok (n : Nat) (e : Ev) : okN (n + 1) e.d = true := by
  cases e with
  | send => rfl
  | drop c => cases c <;> simp [Ev.d, okN, okNs, Cp.s]
  | bring c => cases c <;> simp [Ev.d, okN, okNs, Cp.s]
  | miss b => cases b <;> simp [Ev.d, okN, okNs]
  | hear b => cases b <;> simp [Ev.d, okN, okNs]
theorem evs_ok (n : Nat) (es : List Ev) : okNs (n + 1) (es.map Ev.d) = true := by
  induction es with
  | nil => simp only [List.map_nil, okNs]
  | cons e r ih => simp only [List.map_cons, okNs, ev_ok, ih, Bool.and_self]
theorem ev_w (e : Ev) : wD e.d ≤ 2000 := by
  have h1 : (Str.ofString "send").length = 4 := by decide
  have h2 : (Str.ofString "drop").length = 4 := by decide
  have h3 : (Str.ofString "bring").length = 5 := by decide
  have h4 : (Str.ofString "miss").length = 4 := by decide
  have h5 : (Str.ofString "hear").length = 4 := by decide
  have h6 : ∀ c : Cp, c.s.length ≤ 4 := by intro c; cases c <;> decide
  cases e with
  | send => simp [Ev.d, wD, wDs, h1]
  | drop c => have := h6 c; simp [Ev.d, wD, wDs, h2]; omega
  | bring c => have := h6 c; simp [Ev.d, wD, wDs, h3]; omega
  | miss b => simp [Ev.d, wD, wDs, h4]
  | hear b => simp [Ev.d, wD, wDs, h5]
theorem evs_w (es : List Ev) : wDs (es.map Ev.d) ≤ 2002 * es.length := by
  induction es with
  | nil => simp [wDs]
  | cons e r ih =>
    have := ev_w e
    simp only [List.map_cons, wDs, List.length_cons]
    omega
theorem evs_nil (es : List Ev) : neD (.lst (es.map Ev.d)) (.lst []) = some (.bl (!es.isEmpty)) := by
  have h1 : okN 60 (.lst (es.map Ev.d)) = true := by rw [lst_ok]; exact evs_ok 58 _
  have h2 : okN 60 (.lst []) = true := rfl
  have : eqB (.lst (es.map Ev.d)) (.lst []) = some es.isEmpty := by
    unfold eqB
    simp only [h1, h2, Bool.and_self, if_true]
    cases es <;> rfl
  show (eqB (.lst (es.map Ev.d)) (.lst [])).map _ = _
  rw [this]
  rfl
theorem evs_repr (es : List Ev) (hl : es.length ≤ 11) : ∃ S, reprF [.lst (es.map Ev.d)] = some (.str S) := by
  have k1 : okN 60 (.lst (es.map Ev.d)) = true := evs_ok 58 es
  have k2 : wD (.lst (es.map Ev.d)) ≤ 100000 := by
    have := evs_w es
    simp only [wD]
    omega
  exact ⟨(pyD (.lst (es.map Ev.d))).shown, by simp [k1, k2]⟩
theorem eqB_self {d : D} (h : okN 60 d = true) : eqB d d = some true := by
  unfold eqB
  split
  · simp
  · simp
  · simp
  · simp only [h, Bool.and_self, if_true, PySem.SeqAt.eqv_refl _ (okN_shaped 60 d h).1]
theorem eqD_self {d : D} (h : okN 60 d = true) : eqD d d = some (.bl true) := by
  unfold eqD
  rw [eqB_self h]
  rfl
theorem neD_self {d : D} (h : okN 60 d = true) : neD d d = some (.bl false) := by
  unfold neD
  rw [eqB_self h]
  rfl
theorem evs_self (es : List Ev) : neD (.lst (es.map Ev.d)) (.lst (es.map Ev.d)) = some (.bl false) := neD_self (evs_ok 58 es)
def evLe (a b : Ev) : Bool := PySem.W.dataLe false pyD a.d b.d
def evRank : Ev → Nat
  | .bring .new => 0
  | .bring .one => 1
  | .bring .zero => 2
  | .drop .new => 3
  | .drop .one => 4
  | .drop .zero => 5
  | .hear false => 6
  | .hear true => 7
  | .miss false => 8
  | .miss true => 9
  | .send => 10
theorem evs_all (e : Ev) : e ∈ evs := by
  cases e with
  | send => decide
  | drop c => cases c <;> decide
  | bring c => cases c <;> decide
  | miss b => cases b <;> decide
  | hear b => cases b <;> decide
theorem evLe_rank (a b : Ev) : evLe a b = decide (evRank a ≤ evRank b) := by
  have key : ∀ a, a ∈ evs → ∀ b, b ∈ evs → evLe a b = decide (evRank a ≤ evRank b) := by decide +kernel
  exact key a (evs_all a) b (evs_all b)
theorem evRank_inj (a b : Ev) (h : evRank a = evRank b) : a = b := by
  have key : ∀ a, a ∈ evs → ∀ b, b ∈ evs → evRank a = evRank b → a = b := by decide +kernel
  exact key a (evs_all a) b (evs_all b) h
theorem evs_pw : evs.Pairwise (fun a b => evLe a b = true) := by decide +kernel
theorem ev_lex (a b : Ev) : lexT a.d b.d = true := by
  have key : ∀ a, a ∈ evs → ∀ b, b ∈ evs → lexT a.d b.d = true := by decide +kernel
  exact key a (evs_all a) b (evs_all b)
/-- sorting any list of events that is a part of all of them -/
theorem evs_sort (es : List Ev) (P : Ev → Bool) (hp : es.Perm (evs.filter P)) : sort2F [.lst (es.map Ev.d)] = some (.lst ((evs.filter P).map Ev.d)) := by
  have s : sortL (es.map Ev.d) = (evs.filter P).map Ev.d := by
    unfold sortL
    have e := List.map_mergeSort (r := evLe) (s := PySem.W.dataLe false pyD) (f := Ev.d) (l := es) fun a _ b _ => rfl
    rw [← e]
    congr 1
    refine List.Perm.eq_of_pairwise (le := fun a b => evLe a b = true) ?_ ?_ ?_ ?_
    · intro a b _ _ h1 h2
      rw [evLe_rank] at h1 h2
      have h1 := of_decide_eq_true h1
      have h2 := of_decide_eq_true h2
      exact evRank_inj a b (by omega)
    · refine List.pairwise_mergeSort ?_ ?_ _
      · intro a b c h1 h2
        rw [evLe_rank] at *
        have h1 := of_decide_eq_true h1
        have h2 := of_decide_eq_true h2
        exact decide_eq_true (by omega)
      · intro a b
        rw [evLe_rank, evLe_rank]
        by_cases h : evRank a ≤ evRank b
        · simp [h]
        · simp [show evRank b ≤ evRank a by omega]
    · exact evs_pw.filter P
    · exact (List.mergeSort_perm _ _).trans hp
  have k : sortOkL (es.map Ev.d) = true := by
    unfold sortOkL
    simp only [Bool.and_eq_true]
    refine ⟨⟨⟨evs_ok 58 _, decide_eq_true ?_⟩, ?_⟩, ?_⟩
    · rw [List.length_map, hp.length_eq]
      have : (evs.filter P).length ≤ 11 := List.length_filter_le _ _
      omega
    · refine List.all_eq_true.mpr fun u hu => List.all_eq_true.mpr fun v hv => ?_
      obtain ⟨a, ha, rfl⟩ := List.mem_map.mp hu
      obtain ⟨b, hb, rfl⟩ := List.mem_map.mp hv
      exact ev_lex a b
    · refine List.all_eq_true.mpr fun u hu => ?_
      obtain ⟨a, ha, rfl⟩ := List.mem_map.mp hu
      cases a <;> rfl
  unfold sort2F
  simp only [k, Bool.or_true, Bool.true_or, if_true, s]
/-- a loop over encoded things, with what is ahead and what is to come -/
theorem forL_inv3 {α : Type} {enc : α → D} {set : D → DL.Env → Option DL.Env} {g : DL.Env → Out} (I : List α → DL.Env → Prop) (all : List α)
    (hs : ∀ a p s ρ, p ++ a :: s = all → I p ρ → ∃ ρ1 ρ2, set (enc a) ρ = some ρ1 ∧ (g ρ1 = .nx ρ2 ∨ g ρ1 = .ct ρ2) ∧ I (p ++ [a]) ρ2) :
    ∀ (as pre : List α) (ρ : DL.Env), pre ++ as = all → I pre ρ → ∃ ρ', forL set g (as.map enc) ρ = .nx ρ' ∧ I all ρ'
  | [], pre, ρ, e, hI => ⟨ρ, rfl, by rw [List.append_nil] at e; rw [← e]; exact hI⟩
  | a :: as, pre, ρ, e, hI => by
    obtain ⟨ρ1, ρ2, h1, h2, h3⟩ := hs a pre as ρ e hI
    obtain ⟨ρ', e2, i⟩ := forL_inv3 I all hs as (pre ++ [a]) ρ2 (by rw [List.append_assoc]; exact e) h3
    refine ⟨ρ', ?_, i⟩
    rcases h2 with h2 | h2
    · simp only [List.map_cons, forL, h1, h2]; exact e2
    · simp only [List.map_cons, forL, h1, h2]; exact e2
/-- a comprehension whose test draws: some of the things, in their order -/
theorem lcL_some {α : Type} {enc : α → D} {set : D → DL.Env → Option DL.Env} {t : DL.Env → R Bool} {f : DL.Env → R D} {vs : List Nat} (I : Nat → DL.Env → Prop) :
    ∀ (as : List α), (∀ a, a ∈ as → ∀ n ρ, n < as.length + 1000 → I n ρ → ∃ ρ1 b ρ2, set (enc a) (wipeD ρ vs) = some ρ1 ∧ t ρ1 = .ok b ρ2 ∧ f ρ2 = .ok (enc a) ρ2 ∧ I (n + 1) ρ2) →
    ∀ (acc : List D) (n : Nat) (ρ : DL.Env), n < 1000 → I n ρ → acc.length + as.length ≤ 100000 → ∃ (bs : List α) (ρ' : DL.Env), (∀ b, b ∈ bs → b ∈ as) ∧ bs.length ≤ as.length ∧ lcL set t f vs (as.map enc) acc ρ = .ok (acc ++ bs.map enc) ρ' ∧ I (n + as.length) ρ'
  | [], _, acc, n, ρ, _, hI, _ => ⟨[], ρ, fun b hb => hb, Nat.le_refl _, by simp, hI⟩
  | a :: as, hs, acc, n, ρ, hn, hI, hl => by
    obtain ⟨ρ1, b, ρ2, h1, h2, h3, h4⟩ := hs a List.mem_cons_self n ρ (by omega) hI
    have hs' : ∀ b, b ∈ as → ∀ n ρ, n < as.length + 1000 → I (n + 1) ρ → ∃ ρ1 b' ρ2, set (enc b) (wipeD ρ vs) = some ρ1 ∧ t ρ1 = .ok b' ρ2 ∧ f ρ2 = .ok (enc b) ρ2 ∧ I (n + 1 + 1) ρ2 := fun b hb n ρ hn hI => hs b (List.mem_cons_of_mem a hb) (n + 1) ρ (by rw [List.length_cons]; omega) hI
    rw [List.length_cons] at hl
    cases b with
    | false =>
      obtain ⟨bs, ρ', m1, m2, e, i⟩ := lcL_some (fun n => I (n + 1)) as hs' acc n ρ2 hn h4 (by omega)
      refine ⟨bs, ρ', fun b hb => List.mem_cons_of_mem a (m1 b hb), by rw [List.length_cons]; omega, ?_, by rw [List.length_cons]; exact i⟩
      simp only [List.map_cons, lcL, h1, h2]
      exact e
    | true =>
      obtain ⟨bs, ρ', m1, m2, e, i⟩ := lcL_some (fun n => I (n + 1)) as hs' (acc ++ [enc a]) n ρ2 hn h4 (by rw [List.length_append, List.length_singleton]; omega)
      refine ⟨a :: bs, ρ', fun b hb => ?_, by rw [List.length_cons, List.length_cons]; omega, ?_, by rw [List.length_cons]; exact i⟩
      · rcases List.mem_cons.mp hb with rfl | hb
        · exact List.mem_cons_self
        · exact List.mem_cons_of_mem a (m1 b hb)
      · have hl2 : acc.length < 100000 := by omega
        simp only [List.map_cons, lcL, h1, h2, h3, hl2, if_true]
        rw [e]
        simp only [List.append_assoc, List.singleton_append, List.map_cons]
end PG


set_option maxHeartbeats 1000000
namespace PG
open DL PySem L2
/-! ### values of any kind, judged -/
@[simp] theorem kit_NoneType_int : kitB "NoneType" "int" = some false := by decide
@[simp] theorem kit_NoneType_bool : kitB "NoneType" "bool" = some false := by decide
@[simp] theorem kit_NoneType_str : kitB "NoneType" "str" = some false := by decide
@[simp] theorem kit_NoneType_list : kitB "NoneType" "list" = some false := by decide
@[simp] theorem kit_NoneType_tuple : kitB "NoneType" "tuple" = some false := by decide
@[simp] theorem kit_bool_int : kitB "bool" "int" = some true := by decide
@[simp] theorem kit_bool_bool : kitB "bool" "bool" = some true := by decide
@[simp] theorem kit_bool_str : kitB "bool" "str" = some false := by decide
@[simp] theorem kit_bool_list : kitB "bool" "list" = some false := by decide
@[simp] theorem kit_bool_tuple : kitB "bool" "tuple" = some false := by decide
@[simp] theorem kit_int_int : kitB "int" "int" = some true := by decide
@[simp] theorem kit_int_bool : kitB "int" "bool" = some false := by decide
@[simp] theorem kit_int_str : kitB "int" "str" = some false := by decide
@[simp] theorem kit_int_list : kitB "int" "list" = some false := by decide
@[simp] theorem kit_int_tuple : kitB "int" "tuple" = some false := by decide
@[simp] theorem kit_str_int : kitB "str" "int" = some false := by decide
@[simp] theorem kit_str_bool : kitB "str" "bool" = some false := by decide
@[simp] theorem kit_str_str : kitB "str" "str" = some true := by decide
@[simp] theorem kit_str_list : kitB "str" "list" = some false := by decide
@[simp] theorem kit_str_tuple : kitB "str" "tuple" = some false := by decide
@[simp] theorem kit_list_int : kitB "list" "int" = some false := by decide
@[simp] theorem kit_list_bool : kitB "list" "bool" = some false := by decide
@[simp] theorem kit_list_str : kitB "list" "str" = some false := by decide
@[simp] theorem kit_list_list : kitB "list" "list" = some true := by decide
@[simp] theorem kit_list_tuple : kitB "list" "tuple" = some false := by decide
@[simp] theorem kit_tuple_int : kitB "tuple" "int" = some false := by decide
@[simp] theorem kit_tuple_bool : kitB "tuple" "bool" = some false := by decide
@[simp] theorem kit_tuple_str : kitB "tuple" "str" = some false := by decide
@[simp] theorem kit_tuple_list : kitB "tuple" "list" = some false := by decide
@[simp] theorem kit_tuple_tuple : kitB "tuple" "tuple" = some true := by decide
@[simp] theorem kit_dict_int : kitB "dict" "int" = some false := by decide
@[simp] theorem kit_dict_bool : kitB "dict" "bool" = some false := by decide
@[simp] theorem kit_dict_str : kitB "dict" "str" = some false := by decide
@[simp] theorem kit_dict_list : kitB "dict" "list" = some false := by decide
@[simp] theorem kit_dict_tuple : kitB "dict" "tuple" = some false := by decide
def pl : D → Bool
  | .opq _ => false
  | .scr _ => false
  | _ => true
def isT : D → Bool
  | .tup _ => true
  | _ => false
def isL : D → Bool
  | .lst _ => true
  | _ => false
def isS : D → Bool
  | .str _ => true
  | _ => false
def isBl : D → Bool
  | .bl _ => true
  | _ => false
def isW : D → Bool
  | .int _ => true
  | _ => false
def isC : D → Bool
  | .int i => decide (0 ≤ i)
  | _ => false
def isTn (n : Int) : D → Bool
  | .tup xs => (xs.length : Int) == n
  | _ => false
theorem isi_t {d : D} (h : pl d = true) : isiF [d, .opq (.ty "tuple")] = some (.bl (isT d)) := by
  cases d <;> first | rfl | exact absurd h (by decide) | (simp [pl] at h)
theorem isi_l {d : D} (h : pl d = true) : isiF [d, .opq (.ty "list")] = some (.bl (isL d)) := by
  cases d <;> first | rfl | exact absurd h (by decide) | (simp [pl] at h)
theorem isi_s {d : D} (h : pl d = true) : isiF [d, .opq (.ty "str")] = some (.bl (isS d)) := by
  cases d <;> first | rfl | exact absurd h (by decide) | (simp [pl] at h)
theorem isi_b {d : D} (h : pl d = true) : isiF [d, .opq (.ty "bool")] = some (.bl (isBl d)) := by
  cases d <;> first | rfl | exact absurd h (by decide) | (simp [pl] at h)
theorem isi_i {d : D} (h : pl d = true) : isiF [d, .opq (.ty "int")] = some (.bl (isW d || isBl d)) := by
  cases d <;> first | rfl | exact absurd h (by decide) | (simp [pl] at h)
theorem whole_any {d : D} (h : pl d = true) : c_is_whole [d] = .ok (.bl (isW d)) := by
  have h1 := isi_i h
  have h2 := isi_b h
  cases d <;> simp [-isiF, c_is_whole, den_is_whole, h1, h2, isW, isBl] <;> rfl
theorem count_any {d : D} (h : pl d = true) : c_is_count [d] = .ok (.bl (isC d)) := by
  have h1 := whole_any h
  cases d <;> simp [c_is_count, den_is_count, h1, isW, isC]
theorem tuple_of_any {d : D} (h : pl d = true) (n : Int) : c_is_tuple_of [d, .int n] = .ok (.bl (isTn n d)) := by
  have h1 := isi_t h
  cases d <;> simp [-isiF, c_is_tuple_of, den_is_tuple_of, h1, isT, isTn]
/-- a list is empty or not -/
theorem ne_nil_any (xs : List D) (h : okNs 59 xs = true) : neD (.lst xs) (.lst []) = some (.bl (!xs.isEmpty)) := by
  have h1 : okN 60 (.lst xs) = true := by rw [lst_ok]; exact h
  have h2 : okN 60 (.lst []) = true := rfl
  have : eqB (.lst xs) (.lst []) = some xs.isEmpty := by
    unfold eqB
    simp only [h1, h2, Bool.and_self, if_true]
    cases xs <;> rfl
  show (eqB (.lst xs) (.lst [])).map _ = _
  rw [this]
  rfl
theorem eq_nil_any (xs : List D) (h : okNs 59 xs = true) : eqD (.lst xs) (.lst []) = some (.bl xs.isEmpty) := by
  have h1 : okN 60 (.lst xs) = true := by rw [lst_ok]; exact h
  have h2 : okN 60 (.lst []) = true := rfl
  have : eqB (.lst xs) (.lst []) = some xs.isEmpty := by
    unfold eqB
    simp only [h1, h2, Bool.and_self, if_true]
    cases xs <;> rfl
  show (eqB (.lst xs) (.lst [])).map _ = _
  rw [this]
  rfl
theorem okNs_sub {n : Nat} {xs : List D} (p : D → Bool) (h : okNs n xs = true) : okNs n (xs.filter p) = true := by
  induction xs with
  | nil => rfl
  | cons d r ih =>
    simp only [okNs, Bool.and_eq_true] at h
    rw [List.filter_cons]
    split
    · simp only [okNs, Bool.and_eq_true]; exact ⟨h.1, ih h.2⟩
    · exact ih h.2
theorem ok_pl {n : Nat} {d : D} (h : okN n d = true) (hs : ∀ xs, d ≠ .scr xs) : pl d = true := by
  cases d with
  | opq k => simp only [okN] at h; cases h
  | scr xs => exact absurd rfl (hs xs)
  | _ => rfl
theorem isEmpty_filter {α : Type} (p : α → Bool) : ∀ xs : List α, (xs.filter p).isEmpty = xs.all fun x => !p x
  | [] => rfl
  | x :: r => by
    rw [List.filter_cons, List.all_cons]
    cases hp : p x with
    | true => simp
    | false => simp [isEmpty_filter p r]
end PG


namespace LB
open DL PySem L2
theorem hash_ok {a b : Int} (ha : 0 ≤ a) (ha2 : a < 2147483647) (hb : 0 ≤ b) (hb2 : b < 1152921504606846976) : ∃ r, c__law_hash [.int a, .int b] = .ok (.int r) ∧ 0 ≤ r ∧ r < 2147483647 := by
  have e1 : mulD (.int a) (.int 1140671) = some (.int (a * 1140671)) := mul_ok (by omega) (by decide)
  have e2 : mulD (.int 27644437) (.int b) = some (.int (27644437 * b)) := mul_ok (by decide) (by omega)
  have e3 : mulD (.int (27644437 * b)) (.int b) = some (.int (27644437 * b * b)) := mul_ok (by omega) (by omega)
  have e4 : mulD (.int 131) (.int b) = some (.int (131 * b)) := mul_ok (by decide) (by omega)
  have e5 : ∀ m : Int, mulD (.int (m % 2147483629)) (.int (m % 2147483629)) = some (.int (m % 2147483629 * (m % 2147483629))) := fun m => mul_ok (by omega) (by omega)
  have e6 : mulD (.int 62089) (.int b) = some (.int (62089 * b)) := mul_ok (by decide) (by omega)
  have e7 : ∀ m : Int, mulD (.int (m % 2147483587)) (.int 48271) = some (.int (m % 2147483587 * 48271)) := fun m => mul_ok (by omega) (by decide)
  refine ⟨_, by simp [-mulD, c__law_hash, den__law_hash, e1, e2, e3, e4, e5, e6, e7]; rfl, ?_, ?_⟩
  · exact Int.emod_nonneg _ (by decide)
  · exact Int.emod_lt_of_pos _ (by decide)
def GenOk (m : Int) (g : D) : Prop := ∃ a b c : Int, g = .lst [.int a, .int b, .int c] ∧ 0 ≤ a ∧ 0 ≤ b ∧ b < 2147483647 ∧ 0 ≤ c ∧ c ≤ m
theorem GenOk.mono {m n : Int} {g : D} (h : GenOk m g) (k : m ≤ n) : GenOk n g := by
  obtain ⟨a, b, c, h1, h2, h3, h4, h5, h6⟩ := h
  exact ⟨a, b, c, h1, h2, h3, h4, h5, Int.le_trans h6 k⟩
theorem body_ok {a b c bd dr : Int} {t : Option D} (hb : 0 ≤ b) (hb2 : b < 2147483647) (hc : 0 ≤ c) (hc2 : c < 1000000000000000000) (hd : 0 ≤ dr) (hd2 : dr < 1606938044258990275541962092341162602522202993782792835301376) :
    ∃ r, b__law_random_5 [some (.lst [.int a, .int b, .int c]), some (.int bd), some (.int dr), t] = .nx [some (.lst [.int a, .int b, .int (c + 1)]), some (.int bd), some (.int (dr * 2147483587 + r)), t] ∧ 0 ≤ r ∧ r < 2147483647 := by
  obtain ⟨r, h1, h2, h3⟩ := hash_ok hb hb2 (show 0 ≤ c + 1 by omega) (by omega)
  have e : mulD (.int dr) (.int 2147483587) = some (.int (dr * 2147483587)) := mul_ok (by omega) (by decide)
  refine ⟨r, ?_, h2, h3⟩
  simp [-mulD, b__law_random_5, p__law_random_3, p__law_random_4, h1, e, ixN]
theorem loop_ok {a b bd : Int} (hb : 0 ≤ b) (hb2 : b < 2147483647) : ∀ (ds : List D) (c dr : Int) (t : Option D) (i : Nat), 0 ≤ c → c + ds.length < 1000000000000000000 → 0 ≤ dr → dr < 2 ^ (32 * i) → i + ds.length ≤ 6 →
    ∃ dr' t', forL (gN 3) b__law_random_5 ds [some (.lst [.int a, .int b, .int c]), some (.int bd), some (.int dr), t] = .nx [some (.lst [.int a, .int b, .int (c + ds.length)]), some (.int bd), some (.int dr'), t'] ∧ 0 ≤ dr'
  | [], c, dr, t, i, h1, h2, h3, h4, h5 => ⟨dr, t, by simp, h3⟩
  | d :: ds, c, dr, t, i, h1, h2, h3, h4, h5 => by
    have hl : (d :: ds).length = ds.length + 1 := rfl
    rw [hl] at h2 h5
    have hp : (2 : Int) ^ (32 * i) ≤ 2 ^ 160 := by
      have : (2 : Nat) ^ (32 * i) ≤ 2 ^ 160 := Nat.pow_le_pow_right (by decide) (by omega)
      exact_mod_cast this
    have hp2 : (2 : Int) ^ 160 < 1606938044258990275541962092341162602522202993782792835301376 := by decide
    obtain ⟨r, e, r1, r2⟩ := body_ok (a := a) (bd := bd) (t := some d) hb hb2 h1 (by omega) h3 (by omega)
    obtain ⟨dr', t', e2, h6⟩ := loop_ok hb hb2 ds (c + 1) (dr * 2147483587 + r) (some d) (i + 1) (by omega) (by omega) (by omega) (by
      have : (2 : Int) ^ (32 * (i + 1)) = 2 ^ (32 * i) * 4294967296 := by rw [Nat.mul_add, Int.pow_add]; rfl
      omega) (by omega)
    refine ⟨dr', t', ?_, h6⟩
    simp only [forL, gN, List.set]
    rw [e]
    simp only
    rw [e2, hl, show c + 1 + (ds.length : Int) = c + ((ds.length + 1 : Nat) : Int) by omega]
theorem rounds_ok {bd : Int} (hl : bd.natAbs.log2 ≤ 99) : ∃ k : Nat, (1 : Int) + ((PySem.Builtin.Int.intBits bd : Nat) : Int) / 30 = k ∧ k ≤ 5 := by
  have : PySem.Builtin.Int.intBits bd ≤ 100 := by
    unfold PySem.Builtin.Int.intBits
    split <;> omega
  exact ⟨1 + PySem.Builtin.Int.intBits bd / 30, by omega, by omega⟩
theorem random_1 {a b c bd : Int} (h : 0 < a) (h0 : 0 < bd) (hl2 : bd.natAbs.log2 < 9000) : c__law_random [.lst [.int a, .int b, .int c], .int bd] = .ok (.int (a % bd)) (.lst [.int (a / bd), .int b, .int c]) := by
  simp [c__law_random, den__law_random, p__law_random_2, p__law_random_0, p__law_random_1, h, h0, hl2, ixN]
theorem rn_rng {a b c bd : Int} {k : Nat} (hk1 : (1 : Int) + ((PySem.Builtin.Int.intBits bd : Nat) : Int) / 30 = k) (Rg : List D → Option (List D)) (rs : List D) (hr : Rg [.int ((k : Nat) : Int)] = some rs) : fL Rg (aCons (fOp addD (fC (.int 1)) (fOp fdivD (fUn bitsD (fVar 1)) (fC (.int 30)))) aNil) [some (.lst [.int a, .int b, .int c]), some (.int bd), some (.int 0), none] = .ok rs [some (.lst [.int a, .int b, .int c]), some (.int bd), some (.int 0), none] := by
  have l30 : Nat.log2 30 = 4 := by decide
  simp [hk1, hr, l30]
theorem rn_if {a b c bd : Int} (h : ¬ 0 < a) : (sIf (fBl (fOp gtD (fLend (fOp ixD (fVar 0) (fC (.int 0)))) (fC (.int 0)))) (sCons (sSet 2 (fOp modD (fCl intF (aCons (fLend (fOp ixD (fVar 0) (fC (.int 0)))) aNil)) (fVar 1))) (sCons (sSub 0 (fOp fdivD (fLend (fOp ixD (fVar 0) (fC (.int 0)))) (fVar 1)) (fC (.int 0))) (sRet (fVar 2)))) sNil) [some (.lst [.int a, .int b, .int c]), some (.int bd), none, none] = .nx [some (.lst [.int a, .int b, .int c]), some (.int bd), none, none] := by
  simp [h]
theorem rn_ret {a b c bd dr : Int} {t : Option D} (h0 : 0 < bd) : (sRet (fOp modD (fCl intF (aCons (fVar 2) aNil)) (fVar 1))) [some (.lst [.int a, .int b, .int c]), some (.int bd), some (.int dr), t] = .rt (.int (dr % bd)) [some (.lst [.int a, .int b, .int c]), some (.int bd), some (.int dr), t] := by
  simp [h0]
theorem random_2 {a b c bd dr' : Int} {t' : Option D} {k : Nat} (h : ¬ 0 < a) (h0 : 0 < bd) (hk1 : (1 : Int) + ((PySem.Builtin.Int.intBits bd : Nat) : Int) / 30 = k) (hr : rng1D [.int ((k : Nat) : Int)] = some (rangeD 0 k))
    (e : forL (gN 3) b__law_random_5 (rangeD 0 k) [some (.lst [.int a, .int b, .int c]), some (.int bd), some (.int 0), none] = .nx [some (.lst [.int a, .int b, .int (c + k)]), some (.int bd), some (.int dr'), t']) :
    c__law_random [.lst [.int a, .int b, .int c], .int bd] = .ok (.int (dr' % bd)) (.lst [.int a, .int b, .int (c + k)]) := by
  refine (gen_at (o := .rt (.int (dr' % bd)) [some (.lst [.int a, .int b, .int (c + k)]), some (.int bd), some (.int dr'), t']) rfl ?_).trans rfl
  exact (seq_nx (rn_if h)).trans ((seq_nx rfl).trans ((seq_nx (for_at (rn_rng hk1 rng1D _ hr) e)).trans (rn_ret h0)))
theorem random_ok {m bd : Int} {g : D} (hg : GenOk m g) (hm : m < 1000000000000) (h0 : 0 < bd) (h1 : bd ≤ 1000000000000000000000000000000) : ∃ r g', c__law_random [g, .int bd] = .ok (.int r) g' ∧ 0 ≤ r ∧ r < bd ∧ GenOk (m + 6) g' := by
  obtain ⟨a, b, c, rfl, ha, hb, hb2, hc, hc2⟩ := hg
  have hl : bd.natAbs.log2 ≤ 99 := log2_le (by omega)
  by_cases h : 0 < a
  · exact ⟨a % bd, _, random_1 h h0 (by omega), Int.emod_nonneg _ (by omega), Int.emod_lt_of_pos _ h0, ⟨_, b, c, rfl, Int.ediv_nonneg ha (by omega), hb, hb2, hc, by omega⟩⟩
  · obtain ⟨k, hk1, hk2⟩ := rounds_ok hl
    have hlen : (rangeD 0 k).length = k := by simp [rangeD]
    obtain ⟨dr', t', e, h6⟩ := loop_ok (a := a) (bd := bd) hb hb2 (rangeD 0 k) c 0 none 0 hc (by rw [hlen]; omega) (Int.le_refl _) (by rw [Nat.mul_zero, Int.pow_zero]; decide) (by rw [hlen]; omega)
    rw [hlen] at e
    exact ⟨dr' % bd, _, random_2 h h0 hk1 (rng_ok k (by omega)) e, Int.emod_nonneg _ (by omega), Int.emod_lt_of_pos _ h0, ⟨_, b, _, rfl, ha, hb, hb2, by omega, by omega⟩⟩
def big : Int := 1000000000000000000000000000000000000000000000000000000000000
theorem e60 : powD (.int 10) (.int 60) = some (.int big) := rfl
theorem e600 : powD (.int big) (.int 10) = some (.int (big ^ 10)) := by
  have h : (decide (2 ≤ big) && decide ((1 : Int) ≤ 10) && decide (((PySem.Builtin.Int.intBits big : Nat) : Int) * 10 ≤ 100000)) = true := by decide
  simp only [powD, iiD, h, if_true]
  rfl
theorem big_pos : 0 < big ^ 10 := by decide
theorem intsD_map : ∀ ns : List Int, intsD (ns.map D.int) = some ns
  | [] => rfl
  | n :: r => by
    simp only [List.map_cons, intsD, intsD_map r, Option.map_some]
theorem cut_map (ns : List Int) (lo hi : Option Int) : cutD (ns.map D.int) lo hi = (List.take (HT.sIx ns.length ns.length hi - HT.sIx ns.length 0 lo) (List.drop (HT.sIx ns.length 0 lo) ns)).map D.int := by
  unfold cutD
  rw [List.length_map, List.map_take, List.map_drop]
theorem cell_ok (ns : List Int) (i : Int) (h0 : 0 ≤ i) : ∃ v, c__law_cell [.scr (ns.map D.int), .int i] = .ok (.int v) := by
  by_cases h : i < ns.length
  · have hj : i.toNat < ns.length := by omega
    have e : atI (ns.map D.int) i = some (.int ns[i.toNat]) := by
      unfold atI ixN
      rw [List.length_map, if_pos h0, if_pos h]
      show (ns.map D.int)[i.toNat]? = _
      rw [List.getElem?_map, List.getElem?_eq_getElem hj]
      rfl
    exact ⟨_, by simp [-List.getElem?_map, c__law_cell, den__law_cell, h, e]; rfl⟩
  · have e2 : sumF [.lst (cutD (ns.map D.int) none (some 1))] = some (.int (List.take (HT.sIx ns.length ns.length (some 1) - HT.sIx ns.length 0 none) (List.drop (HT.sIx ns.length 0 none) ns)).sum) := by
      simp only [sumF]
      rw [cut_map, intsD_map]
      rfl
    refine ⟨(List.take (HT.sIx ns.length ns.length (some 1) - HT.sIx ns.length 0 none) (List.drop (HT.sIx ns.length 0 none) ns)).sum % 1000003, ?_⟩
    simp [-cutD, -sumF, c__law_cell, den__law_cell, h, e2]
theorem generator_ok (ns : List Int) (i : Int) (h0 : 0 ≤ i) (h1 : i ≤ 20) : ∃ g, c__law_generator [.scr (ns.map D.int), .int i] = .ok g ∧ GenOk 20000 g := by
  obtain ⟨v, e⟩ := cell_ok ns i h0
  have em : mulD (.int 1000) (.int i) = some (.int (1000 * i)) := mul_ok (by decide) (by omega)
  have hp := big_pos
  refine ⟨_, ?_, ⟨(if 0 > v - 1000000000000000000 then 0 else v - 1000000000000000000) % big ^ 10, v % 2147483647, 1000 * i, rfl, Int.emod_nonneg _ (by omega), Int.emod_nonneg _ (by decide), Int.emod_lt_of_pos _ (by decide), by omega, by omega⟩⟩
  generalize hB : big ^ 10 = B at hp ⊢
  have e6 := e600
  rw [hB] at e6
  simp [-powD, -mulD, c__law_generator, den__law_generator, e, em, pow18, e60, e6, hp]
end LB


set_option maxHeartbeats 1000000
namespace L21
open DL PySem L2 PG LB
theorem link_ok {m most : Int} {g : D} (hg : GenOk m g) (hm : m < 100000000000) (h0 : 1 ≤ most) (h1 : most ≤ 10000000000000000000000000000) : ∃ (l : Lk) (g' : D), c__law_link [g, .int most] = .ok l.D g' ∧ l.Ok ∧ l.Small ∧ GenOk (m + 30) g' := by
  obtain ⟨c, g1, e1, c1, c2, hg1⟩ := random_ok (bd := most) hg (by omega) (by omega) (by omega)
  obtain ⟨d, g2, e2, d1, d2, hg2⟩ := random_ok (bd := most) hg1 (by omega) (by omega) (by omega)
  obtain ⟨r, g3, e3, r1, r2, hg3⟩ := random_ok (bd := 2) hg2 (by omega) (by omega) (by omega)
  have q0 : p__law_link_0 (startD N__law_link [g, .int most]) = .nx [some g2, some (.int most), some (.int (1 + c)), some (.int (1 + d))] := by
    simp [p__law_link_0, e1, e2]
  by_cases hr : r = 0
  · subst hr
    obtain ⟨p, g4, e4, p1, p2, hg4⟩ := random_ok (bd := 2) hg3 (by omega) (by omega) (by omega)
    obtain ⟨q, g5, e5, q1, q2, hg5⟩ := random_ok (bd := 2) hg4 (by omega) (by omega) (by omega)
    refine ⟨⟨1 + c, 1 + d, 1 + c + p, 1 + d + q⟩, g5, ?_, ⟨by show 0 < 1 + c; omega, by show 0 < 1 + d; omega, by show 0 < 1 + c + p; omega, by show 0 < 1 + d + q; omega⟩, ⟨by show 1 + c ≤ _; omega, by show 1 + d ≤ _; omega, by show 1 + c + p ≤ _; omega, by show 1 + d + q ≤ _; omega⟩, hg5.mono (by omega)⟩
    have q3 : p__law_link_2 [some g2, some (.int most), some (.int (1 + c)), some (.int (1 + d))] = .rt (Lk.D ⟨1 + c, 1 + d, 1 + c + p, 1 + d + q⟩) [some g5, some (.int most), some (.int (1 + c)), some (.int (1 + d))] := by
      simp [p__law_link_2, p__law_link_1, e3, e4, e5, Lk.D]
    exact (gen_at rfl ((seq_nx q0).trans (seq_rt q3))).trans rfl
  · have hr' : (r == 0) = false := beq_eq_false_iff_ne.mpr hr
    obtain ⟨p, g4, e4, p1, p2, hg4⟩ := random_ok (bd := most) hg3 (by omega) (by omega) (by omega)
    obtain ⟨q, g5, e5, q1, q2, hg5⟩ := random_ok (bd := most) hg4 (by omega) (by omega) (by omega)
    refine ⟨⟨1 + c, 1 + d, 1 + p, 1 + q⟩, g5, ?_, ⟨by show 0 < 1 + c; omega, by show 0 < 1 + d; omega, by show 0 < 1 + p; omega, by show 0 < 1 + q; omega⟩, ⟨by show 1 + c ≤ _; omega, by show 1 + d ≤ _; omega, by show 1 + p ≤ _; omega, by show 1 + q ≤ _; omega⟩, hg5.mono (by omega)⟩
    have q3 : p__law_link_2 [some g2, some (.int most), some (.int (1 + c)), some (.int (1 + d))] = .nx [some g3, some (.int most), some (.int (1 + c)), some (.int (1 + d))] := by
      simp [p__law_link_2, e3, hr']
    have q4 : p__law_link_3 [some g3, some (.int most), some (.int (1 + c)), some (.int (1 + d))] = .rt (Lk.D ⟨1 + c, 1 + d, 1 + p, 1 + q⟩) [some g5, some (.int most), some (.int (1 + c)), some (.int (1 + d))] := by
      simp [p__law_link_3, e4, e5, Lk.D]
    exact (gen_at rfl ((seq_nx q0).trans ((seq_nx q3).trans q4))).trans rfl
abbrev coE (g : D) (l : Lk) (rest : List (Option D)) : DL.Env := some g :: some l.D :: some (.int l.c) :: some (.int l.d) :: some (.int l.p) :: some (.int l.q) :: rest
theorem contents_ok {m : Int} {g : D} {l : Lk} (lo : l.Ok) (ls : l.Small) (hg : GenOk m g) (hm : m < 1000000000) : ∃ (x : Co) (g' : D), c__law_contents [g, l.D] = .ok x.d g' ∧ x.Ok l ∧ GenOk (m + 100) g' := by
  have l1 := ls.c; have l2 := ls.d; have l3 := ls.p; have l4 := ls.q
  have k1 := lo.c; have k2 := lo.d; have k3 := lo.p; have k4 := lo.q
  obtain ⟨b0, g1, e1, a1, a2, hg1⟩ := random_ok (bd := 2) hg (by omega) (by decide) (by decide)
  obtain ⟨b1, g2, e2, a3, a4, hg2⟩ := random_ok (bd := 2) hg1 (by omega) (by decide) (by decide)
  obtain ⟨n, g3, e3, n1, n2, hg3⟩ := random_ok (bd := l.p) hg2 (by omega) (by omega) (by omega)
  have q0 : p__law_contents_0 (startD N__law_contents [g, l.D]) = .nx (coE g l [none, none, none, none, none, none, none, none, none]) := by
    simp [p__law_contents_0, Lk.D]
  have q1 : p__law_contents_1 (coE g l [none, none, none, none, none, none, none, none, none]) = .nx (coE g2 l [some (.int b0), some (.int b1), none, none, none, none, none, none, none]) := by
    simp [p__law_contents_1, e1, e2]
  have q2 : p__law_contents_2 (coE g2 l [some (.int b0), some (.int b1), none, none, none, none, none, none, none]) = .nx (coE g3 l [some (.int b0), some (.int b1), some (.int n), some .non, none, none, none, none, none]) := by
    simp [p__law_contents_2, e3]
  obtain ⟨lot, g4, q3, hlot, hg4⟩ : ∃ (lot : Lot) (g4 : D), p__law_contents_4 (coE g3 l [some (.int b0), some (.int b1), some (.int n), some .non, none, none, none, none, none]) = .nx (coE g4 l [some (.int b0), some (.int b1), some (.int n), some lot.d, none, none, none, none, none]) ∧ lot.Ok l.p (b0 ≠ b1) ∧ GenOk (m + 40) g4 := by
    by_cases hn : 0 < n
    · by_cases hb : b0 = b1
      · exact ⟨.old n, g3, by simp [p__law_contents_4, p__law_contents_3, hn, hb, Lot.d], ⟨by omega, by omega⟩, hg3.mono (by omega)⟩
      · have hb' : (b0 == b1) = false := beq_eq_false_iff_ne.mpr hb
        obtain ⟨s, i2, f2, s1, s2, hh2⟩ := random_ok (bd := 2) hg3 (by omega) (by decide) (by decide)
        have : s = 0 ∨ s = 1 := by omega
        rcases this with rfl | rfl
        · exact ⟨.new n, i2, by simp [p__law_contents_4, p__law_contents_3, hn, hb', f2, Lot.d], ⟨by omega, by omega, hb⟩, hh2.mono (by omega)⟩
        · exact ⟨.old n, i2, by simp [p__law_contents_4, p__law_contents_3, hn, hb', f2, Lot.d], ⟨by omega, by omega⟩, hh2.mono (by omega)⟩
    · exact ⟨.none, g3, by simp [p__law_contents_4, hn, Lot.d], trivial, hg3.mono (by omega)⟩
  obtain ⟨t0, g5, e5, t1, t2, hg5⟩ := random_ok (bd := l.c + 1) hg4 (by omega) (by omega) (by omega)
  obtain ⟨u0, g6, e6, u1, u2, hg6⟩ := random_ok (bd := l.c + 1 - t0) hg5 (by omega) (by omega) (by omega)
  obtain ⟨v0, g7, e7, v1, v2, hg7⟩ := random_ok (bd := l.c + 1 - t0 - u0) hg6 (by omega) (by omega) (by omega)
  obtain ⟨a, g8, e8, xa1, xa2, hg8⟩ := random_ok (bd := l.d + 1) hg7 (by omega) (by omega) (by omega)
  obtain ⟨b, g9, e9, xb1, xb2, hg9⟩ := random_ok (bd := l.d + 1 - a) hg8 (by omega) (by omega) (by omega)
  obtain ⟨h, g10, e10, h1, h2, hg10⟩ := random_ok (bd := l.q) hg9 (by omega) (by omega) (by omega)
  obtain ⟨dn, g11, e11, d1, d2, hg11⟩ := random_ok (bd := 2) hg10 (by omega) (by decide) (by decide)
  refine ⟨⟨b0, h, b1, lot, dn == 1, t0, u0, v0, a, b⟩, g11, ?_, ⟨by show b0 = 0 ∨ b0 = 1; omega, by show b1 = 0 ∨ b1 = 1; omega, h1, h2, hlot, t1, u1, v1, by show t0 + u0 + v0 ≤ l.c; omega, xa1, xb1, by show a + b ≤ l.d; omega⟩, hg11.mono (by omega)⟩
  have q4 : p__law_contents_5 (coE g4 l [some (.int b0), some (.int b1), some (.int n), some lot.d, none, none, none, none, none]) = .nx (coE g5 l [some (.int b0), some (.int b1), some (.int n), some lot.d, some (.int t0), none, none, none, none]) := by simp [p__law_contents_5, e5]
  have q5 : p__law_contents_6 (coE g5 l [some (.int b0), some (.int b1), some (.int n), some lot.d, some (.int t0), none, none, none, none]) = .nx (coE g6 l [some (.int b0), some (.int b1), some (.int n), some lot.d, some (.int t0), some (.int u0), none, none, none]) := by simp [p__law_contents_6, e6]
  have q6 : p__law_contents_7 (coE g6 l [some (.int b0), some (.int b1), some (.int n), some lot.d, some (.int t0), some (.int u0), none, none, none]) = .nx (coE g7 l [some (.int b0), some (.int b1), some (.int n), some lot.d, some (.int t0), some (.int u0), some (.int v0), none, none]) := by simp [p__law_contents_7, e7]
  have q7 : p__law_contents_8 (coE g7 l [some (.int b0), some (.int b1), some (.int n), some lot.d, some (.int t0), some (.int u0), some (.int v0), none, none]) = .nx (coE g8 l [some (.int b0), some (.int b1), some (.int n), some lot.d, some (.int t0), some (.int u0), some (.int v0), some (.int a), none]) := by simp [p__law_contents_8, e8]
  have q8 : p__law_contents_9 (coE g8 l [some (.int b0), some (.int b1), some (.int n), some lot.d, some (.int t0), some (.int u0), some (.int v0), some (.int a), none]) = .nx (coE g9 l [some (.int b0), some (.int b1), some (.int n), some lot.d, some (.int t0), some (.int u0), some (.int v0), some (.int a), some (.tup [.int a, .int b])]) := by simp [p__law_contents_9, e9]
  have q9 : p__law_contents_10 (coE g9 l [some (.int b0), some (.int b1), some (.int n), some lot.d, some (.int t0), some (.int u0), some (.int v0), some (.int a), some (.tup [.int a, .int b])]) = .rt (Co.d ⟨b0, h, b1, lot, dn == 1, t0, u0, v0, a, b⟩) (coE g11 l [some (.int b0), some (.int b1), some (.int n), some lot.d, some (.int t0), some (.int u0), some (.int v0), some (.int a), some (.tup [.int a, .int b])]) := by simp [p__law_contents_10, e10, e11, Co.d]
  exact (gen_at rfl ((seq_nx q0).trans ((seq_nx q1).trans ((seq_nx q2).trans ((seq_nx q3).trans ((seq_nx q4).trans ((seq_nx q5).trans ((seq_nx q6).trans ((seq_nx q7).trans ((seq_nx q8).trans q9)))))))))).trans rfl
end L21


set_option maxHeartbeats 1000000
namespace K45
open DL PySem L2 PG LB L21
section
variable {l : Lk} {x y : Co}
/-! ### parts of a view, judged -/
abbrev BIG : Nat := 1606938044258990275541962092341162602522202993782792835301376
structure It (d : D) : Prop where
  p : pl d = true
  s : ∀ i, d = .int i → i.natAbs < BIG
structure Pt (v : D) : Prop where
  p : pl v = true
  i : ∀ ds, v = .tup ds → (∀ d, d ∈ ds → It d) ∧ ds.length ≤ 10
def jpair (q : Int) : D → Bool
  | .non => true
  | .tup [.int a, .int b] => (decide (0 ≤ a) && decide (a < 2)) && (decide (0 ≤ b) && decide (b < q))
  | _ => false
def jtwo (q : Int) : D → Bool
  | .non => true
  | .tup [.int a, .int b] => (decide (0 ≤ a) && decide (0 ≤ b)) && decide (a + b ≤ q)
  | _ => false
def isB2 : D → Bool
  | .int i => decide (0 ≤ i) && decide (i < 2)
  | _ => false
theorem bit_any {d : D} (h : pl d = true) : c_is_bit [d] = .ok (.bl (isB2 d)) := by
  have h1 := count_any h
  cases d with
  | int i => by_cases q : 0 ≤ i <;> simp [c_is_bit, den_is_bit, isB2, q]
  | scr _ => cases h
  | opq _ => cases h
  | _ => simp only [isC] at h1; simp [c_is_bit, den_is_bit, h1, isB2]
theorem map_id' (ds : List D) : ds.map (fun d => d) = ds := List.map_id' ds
theorem neX_nil (xs : List D) : neX (.lst xs) (.lst []) = some (.bl (!xs.isEmpty)) := by
  cases xs with
  | nil => rfl
  | cons d r => simp [neX]
theorem item_lc (ds : List D) (hd : ∀ d, d ∈ ds → pl d = true) (hl : ds.length ≤ 1000) (m : D) (y2 : Option D) :
    fLc [2] (fSeq (fVar 0)) (gN 2) (fOr (fTru (fCl isiF (aCons (fVar 2) (aCons (fC (.opq (.ty "bool"))) aNil)))) (fNot (fTru (fCl isiF (aCons (fVar 2) (aCons (fC (.opq (.ty "int"))) aNil)))))) (fVar 2) [some (.tup ds), some m, y2] = .ok (.lst (ds.filter fun d => !isW d)) [some (.tup ds), some m, y2] := by
  obtain ⟨ρ', e, z, rfl⟩ := lcL_filter (enc := fun d => d) (out := fun d => d) (tb := fun d => !isW d) (set := gN 2) (t := (fOr (fTru (fCl isiF (aCons (fVar 2) (aCons (fC (.opq (.ty "bool"))) aNil)))) (fNot (fTru (fCl isiF (aCons (fVar 2) (aCons (fC (.opq (.ty "int"))) aNil))))))) (f := fVar 2) (vs := [2]) (fun ρ => ∃ z, ρ = [some (.tup ds), some m, z]) ds (by
    rintro d hdd ρ ⟨z, rfl⟩
    have h := isi_i (hd d hdd)
    have h2 := isi_b (hd d hdd)
    refine ⟨[some (.tup ds), some m, some d], by simp, ?_, fun _ => by simp, _, rfl⟩
    cases d <;> simp [-isiF, h, h2, isW, isBl]) [] [some (.tup ds), some m, y2] ⟨y2, rfl⟩ (by show 0 + _ ≤ _; omega)
  rw [List.nil_append, map_id', map_id'] at e
  simp [-lcL, e]
theorem in01 (a : Int) (h : a.natAbs < BIG) : inA (.int a) (.lst [.int 0, .int 1]) = some (.bl (decide (0 ≤ a) && decide (a < 2))) := by
  have h1 : okN 60 (.int a) = true := okI h
  have h2 : okNs 59 [D.int 0, .int 1] = true := by decide
  have : inAB (.int a) (.lst [.int 0, .int 1]) = some (decide (0 ≤ a) && decide (a < 2)) := by
    show inB (.int a) (.lst [.int 0, .int 1]) = _
    unfold inB
    simp only [h1, h2, Bool.and_self, if_true, pyDs, pyD, List.any_cons, List.any_nil, eqv_int]
    congr 1
    by_cases e0 : a = 0
    · subst e0; rfl
    · by_cases e1 : a = 1
      · subst e1; rfl
      · have : ((0 : Int) == a) = false := beq_eq_false_iff_ne.mpr (Ne.symm e0)
        have : ((1 : Int) == a) = false := beq_eq_false_iff_ne.mpr (Ne.symm e1)
        simp [*]
        omega
  unfold inA
  rw [this]
  rfl
theorem not_two {ds : List D} (h : ds.length ≠ 2) (q : Int) : jpair q (.tup ds) = false ∧ jtwo q (.tup ds) = false := by
  match ds, h with
  | [], _ => exact ⟨rfl, rfl⟩
  | [a], _ => cases a <;> exact ⟨rfl, rfl⟩
  | [a, b], h => exact absurd rfl h
  | a :: b :: c :: r, _ => constructor <;> (cases a <;> first | rfl | (cases b <;> rfl))
theorem not_w {a b : D} (h : isW a = false ∨ isW b = false) (q : Int) : jpair q (.tup [a, b]) = false ∧ jtwo q (.tup [a, b]) = false := by
  rcases h with h | h
  · cases a <;> first | (cases h; done) | exact ⟨rfl, rfl⟩
  · cases b <;> first | (cases h; done) | (cases a <;> exact ⟨rfl, rfl⟩)
theorem law_pair_ok {p : D} (hp : Pt p) (q : Int) : c__law_pair [p, .int q] = .ok (.bl (jpair q p)) := by
  cases p with
  | non => simp [c__law_pair, den__law_pair, jpair]
  | scr _ => cases hp.p
  | opq _ => cases hp.p
  | tup ds =>
    obtain ⟨hi, hl⟩ := hp.i _ rfl
    by_cases h2 : ds.length = 2
    · match ds, h2 with
      | [a, b], _ =>
        have lc := item_lc [a, b] (fun d hd => (hi d hd).p) (by simp) (.int q) none
        have nx := neX_nil ([a, b].filter fun d => !isW d)
        rw [isEmpty_filter] at nx
        simp only [Bool.not_not, List.all_cons, List.all_nil, Bool.and_true] at nx
        by_cases hw : (isW a && isW b) = true
        · rw [hw] at nx
          rw [Bool.and_eq_true] at hw
          cases a with
          | int a' =>
            cases b with
            | int b' =>
              have i1 := in01 a' ((hi _ List.mem_cons_self).s a' rfl)
              show _ = R0.ok (.bl ((decide (0 ≤ a') && decide (a' < 2)) && (decide (0 ≤ b') && decide (b' < q))))
              generalize hF : fLc [2] (fSeq (fVar 0)) (gN 2) (fOr (fTru (fCl isiF (aCons (fVar 2) (aCons (fC (.opq (.ty "bool"))) aNil)))) (fNot (fTru (fCl isiF (aCons (fVar 2) (aCons (fC (.opq (.ty "int"))) aNil)))))) (fVar 2) = F at *
              generalize [D.int a', D.int b'].filter (fun d => !isW d) = fs at *
              generalize (decide (0 ≤ a') && decide (a' < 2)) = c1 at *
              cases c1 <;> by_cases c2 : 0 ≤ b' <;> by_cases c3 : b' < q <;> simp [-fLc, -neX, -inA, c__law_pair, den__law_pair, hF, neI, lc, nx, i1, c2, c3]
            | _ => exact absurd hw.2 (by simp [isW])
          | _ => exact absurd hw.1 (by simp [isW])
        · have hw : (isW a && isW b) = false := by revert hw; cases (isW a && isW b) <;> simp
          rw [hw] at nx
          rw [(not_w (by revert hw; cases isW a <;> cases isW b <;> simp) q).1]
          generalize hF : fLc [2] (fSeq (fVar 0)) (gN 2) (fOr (fTru (fCl isiF (aCons (fVar 2) (aCons (fC (.opq (.ty "bool"))) aNil)))) (fNot (fTru (fCl isiF (aCons (fVar 2) (aCons (fC (.opq (.ty "int"))) aNil)))))) (fVar 2) = F at *
          generalize [a, b].filter (fun d => !isW d) = fs at *
          simp [-fLc, -neX, c__law_pair, den__law_pair, hF, neI, lc, nx]
    · rw [(not_two h2 q).1]
      have e : ((ds.length : Int) == 2) = false := beq_eq_false_iff_ne.mpr (by omega)
      simp [-fLc, -neX, c__law_pair, den__law_pair, neI, e]
      try omega
  | _ => simp [c__law_pair, den__law_pair, jpair]
theorem law_two_ok {p : D} (hp : Pt p) (q : Int) : c__law_two [p, .int q] = .ok (.bl (jtwo q p)) := by
  cases p with
  | non => simp [c__law_two, den__law_two, jtwo]
  | scr _ => cases hp.p
  | opq _ => cases hp.p
  | tup ds =>
    obtain ⟨hi, hl⟩ := hp.i _ rfl
    by_cases h2 : ds.length = 2
    · match ds, h2 with
      | [a, b], _ =>
        have lc := item_lc [a, b] (fun d hd => (hi d hd).p) (by simp) (.int q) none
        have nx := neX_nil ([a, b].filter fun d => !isW d)
        rw [isEmpty_filter] at nx
        simp only [Bool.not_not, List.all_cons, List.all_nil, Bool.and_true] at nx
        by_cases hw : (isW a && isW b) = true
        · rw [hw] at nx
          rw [Bool.and_eq_true] at hw
          cases a with
          | int a' =>
            cases b with
            | int b' =>
              show _ = R0.ok (.bl ((decide (0 ≤ a') && decide (0 ≤ b')) && decide (a' + b' ≤ q)))
              generalize hF : fLc [2] (fSeq (fVar 0)) (gN 2) (fOr (fTru (fCl isiF (aCons (fVar 2) (aCons (fC (.opq (.ty "bool"))) aNil)))) (fNot (fTru (fCl isiF (aCons (fVar 2) (aCons (fC (.opq (.ty "int"))) aNil)))))) (fVar 2) = F at *
              generalize [D.int a', D.int b'].filter (fun d => !isW d) = fs at *
              by_cases c1 : 0 ≤ a' <;> by_cases c2 : 0 ≤ b' <;> simp [-fLc, -neX, -inA, c__law_two, den__law_two, hF, neI, lc, nx, c1, c2]
            | _ => exact absurd hw.2 (by simp [isW])
          | _ => exact absurd hw.1 (by simp [isW])
        · have hw : (isW a && isW b) = false := by revert hw; cases (isW a && isW b) <;> simp
          rw [hw] at nx
          rw [(not_w (by revert hw; cases isW a <;> cases isW b <;> simp) q).2]
          generalize hF : fLc [2] (fSeq (fVar 0)) (gN 2) (fOr (fTru (fCl isiF (aCons (fVar 2) (aCons (fC (.opq (.ty "bool"))) aNil)))) (fNot (fTru (fCl isiF (aCons (fVar 2) (aCons (fC (.opq (.ty "int"))) aNil)))))) (fVar 2) = F at *
          generalize [a, b].filter (fun d => !isW d) = fs at *
          simp [-fLc, -neX, c__law_two, den__law_two, hF, neI, lc, nx]
    · rw [(not_two h2 q).2]
      have e : ((ds.length : Int) == 2) = false := beq_eq_false_iff_ne.mpr (by omega)
      simp [-fLc, -neX, c__law_two, den__law_two, neI, e]
      try omega
  | _ => simp [c__law_two, den__law_two, jtwo]
/-! the program's -/
theorem jpair_B (a b : D) (q : Int) : jpair q (.tup [a, b]) = (isB2 a && (isC b && (match b with | .int i => decide (i < q) | _ => false))) := by
  cases a with
  | int i =>
    cases b with
    | int j => simp [jpair, isB2, isC]
    | _ => simp [jpair, isC]
  | _ => cases b <;> simp [jpair, isB2]
theorem sender_ok {p : D} (hp : Pt p) (hn : p ≠ .non) : c_is_sender [l.D, p] = .ok (.bl (jpair l.q p)) := by
  have i1 := tuple_of_any hp.p 2
  have ld : l.D = .tup [.int l.c, .int l.d, .int l.p, .int l.q] := rfl
  rw [ld]
  cases p with
  | non => exact absurd rfl hn
  | scr _ => cases hp.p
  | opq _ => cases hp.p
  | tup ds =>
    obtain ⟨hi, hl⟩ := hp.i _ rfl
    by_cases h2 : ds.length = 2
    · match ds, h2 with
      | [a, b], _ =>
        have b1 := bit_any (hi a (by simp)).p
        have b2 := count_any (hi b (by simp)).p
        rw [jpair_B]
        generalize isB2 a = c1 at *
        cases c1 with
        | false => simp [c_is_sender, den_is_sender, b1]
        | true =>
          cases b with
          | int j => by_cases c : 0 ≤ j <;> simp [c_is_sender, den_is_sender, b1, c, isC]
          | _ => simp only [isC] at b2; simp [c_is_sender, den_is_sender, b1, b2, isC]
    · rw [(not_two h2 l.q).1]
      have e : isTn 2 (.tup ds) = false := beq_eq_false_iff_ne.mpr (by omega)
      rw [e] at i1
      simp [c_is_sender, den_is_sender, i1]
  | _ => simp only [isTn] at i1; simp [c_is_sender, den_is_sender, i1, jpair]
theorem receiver_ok {p : D} (hp : Pt p) (hn : p ≠ .non) : c_is_seen_receiver [l.D, p] = .ok (.bl (jpair l.p p)) := by
  have i1 := tuple_of_any hp.p 2
  have ld : l.D = .tup [.int l.c, .int l.d, .int l.p, .int l.q] := rfl
  rw [ld]
  cases p with
  | non => exact absurd rfl hn
  | scr _ => cases hp.p
  | opq _ => cases hp.p
  | tup ds =>
    obtain ⟨hi, hl⟩ := hp.i _ rfl
    by_cases h2 : ds.length = 2
    · match ds, h2 with
      | [a, b], _ =>
        have b1 := bit_any (hi a (by simp)).p
        have b2 := count_any (hi b (by simp)).p
        rw [jpair_B]
        generalize isB2 a = c1 at *
        cases c1 with
        | false => simp [c_is_seen_receiver, den_is_seen_receiver, b1]
        | true =>
          cases b with
          | int j => by_cases c : 0 ≤ j <;> simp [c_is_seen_receiver, den_is_seen_receiver, b1, c, isC]
          | _ => simp only [isC] at b2; simp [c_is_seen_receiver, den_is_seen_receiver, b1, b2, isC]
    · rw [(not_two h2 l.p).1]
      have e : isTn 2 (.tup ds) = false := beq_eq_false_iff_ne.mpr (by omega)
      rw [e] at i1
      simp [c_is_seen_receiver, den_is_seen_receiver, i1]
  | _ => simp only [isTn] at i1; simp [c_is_seen_receiver, den_is_seen_receiver, i1, jpair]
theorem jtwo_C (a b : D) (q : Int) : jtwo q (.tup [a, b]) = ((isC a && isC b) && (match a, b with | .int i, .int j => decide (i + j ≤ q) | _, _ => false)) := by
  cases a with
  | int i =>
    cases b with
    | int j => simp [jtwo, isC]
    | _ => simp [jtwo, isC]
  | _ => cases b <;> simp [jtwo, isC]
theorem counts_ok {p : D} (hp : Pt p) (hn : p ≠ .non) (q : Int) : c_are_counts [p, .int 2, .int q] = .ok (.bl (jtwo q p)) := by
  have i1 := tuple_of_any hp.p 2
  cases p with
  | non => exact absurd rfl hn
  | scr _ => cases hp.p
  | opq _ => cases hp.p
  | tup ds =>
    obtain ⟨hi, hl⟩ := hp.i _ rfl
    by_cases h2 : ds.length = 2
    · match ds, h2 with
      | [a, b], _ =>
        have b1 := count_any (hi a (by simp)).p
        have b2 := count_any (hi b (by simp)).p
        rw [jtwo_C]
        cases a with
        | int i =>
          cases b with
          | int j => by_cases c1 : 0 ≤ i <;> by_cases c2 : 0 ≤ j <;> simp [c_are_counts, den_are_counts, c1, c2, isC]
          | _ => simp only [isC] at b2; by_cases c1 : 0 ≤ i <;> simp [c_are_counts, den_are_counts, b2, c1, isC]
        | _ => simp only [isC] at b1; generalize isC b = cb at *; cases cb <;> simp [c_are_counts, den_are_counts, b1, b2, isC]
    · rw [(not_two h2 q).2]
      have e : isTn 2 (.tup ds) = false := beq_eq_false_iff_ne.mpr (by omega)
      rw [e] at i1
      simp [c_are_counts, den_are_counts, i1]
  | _ => simp only [isTn] at i1; simp [c_are_counts, den_are_counts, i1, jtwo]
end
end K45


set_option maxHeartbeats 1000000
namespace K45
open DL PySem L2 PG LB L21
section
variable {l : Lk} {x y : Co}
theorem non_or (p : D) : p = .non ∨ (p ≠ .non ∧ isNB p = isNB p) := by
  cases p <;> first | exact .inl rfl | exact .inr ⟨(fun h => nomatch h), rfl⟩
/-- is not None -/
theorem notnone {p : D} (hp : pl p = true) : notN p .non = some (.bl (match p with | .non => false | _ => true)) ∧ isN p .non = some (.bl (match p with | .non => true | _ => false)) := by
  cases p <;> first | exact ⟨rfl, rfl⟩ | (simp [pl] at hp)
def jview (l : Lk) (a b c d : D) : Bool := jpair l.q a && (jpair l.p b && (jtwo l.c c && jtwo l.d d))
theorem prog_view {a b c d : D} (ha : Pt a) (hb : Pt b) (hc : Pt c) (hd : Pt d) : c_is_view_of [l.D, .tup [a, b, c, d]] = .ok (.bl (jview l a b c d)) := by
  have ld : l.D = .tup [.int l.c, .int l.d, .int l.p, .int l.q] := rfl
  have n1 := (notnone ha.p).1
  have n2 := (notnone hb.p).1
  have n3 := (notnone hc.p).1
  have n4 := (notnone hd.p).2
  have s1 : notN a .non = some (.bl false) ∧ jpair l.q a = true ∨ notN a .non = some (.bl true) ∧ c_is_sender [l.D, a] = .ok (.bl (jpair l.q a)) := by
    cases a with
    | non => exact .inl ⟨rfl, rfl⟩
    | _ => exact .inr ⟨n1, sender_ok ha (fun h => nomatch h)⟩
  have s2 : notN b .non = some (.bl false) ∧ jpair l.p b = true ∨ notN b .non = some (.bl true) ∧ c_is_seen_receiver [l.D, b] = .ok (.bl (jpair l.p b)) := by
    cases b with
    | non => exact .inl ⟨rfl, rfl⟩
    | _ => exact .inr ⟨n2, receiver_ok hb (fun h => nomatch h)⟩
  have s3 : notN c .non = some (.bl false) ∧ jtwo l.c c = true ∨ notN c .non = some (.bl true) ∧ c_are_counts [c, .int 2, .int l.c] = .ok (.bl (jtwo l.c c)) := by
    cases c with
    | non => exact .inl ⟨rfl, rfl⟩
    | _ => exact .inr ⟨n3, counts_ok hc (fun h => nomatch h) _⟩
  have s4 : isN d .non = some (.bl true) ∧ jtwo l.d d = true ∨ isN d .non = some (.bl false) ∧ c_are_counts [d, .int 2, .int l.d] = .ok (.bl (jtwo l.d d)) := by
    cases d with
    | non => exact .inl ⟨rfl, rfl⟩
    | _ => exact .inr ⟨n4, counts_ok hd (fun h => nomatch h) _⟩
  unfold jview
  clear n1 n2 n3 n4
  generalize jpair l.q a = ja at *
  generalize jpair l.p b = jb at *
  generalize jtwo l.c c = jc at *
  generalize jtwo l.d d = jd at *
  rw [ld] at *
  rcases s1 with ⟨e1, rfl⟩ | ⟨e1, f1⟩
  · rcases s2 with ⟨e2, rfl⟩ | ⟨e2, f2⟩
    · rcases s3 with ⟨e3, rfl⟩ | ⟨e3, f3⟩
      · rcases s4 with ⟨e4, rfl⟩ | ⟨e4, f4⟩
        · simp [-notN, -isN, c_is_view_of, den_is_view_of, e1, e2, e3, e4]
        · simp [-notN, -isN, c_is_view_of, den_is_view_of, e1, e2, e3, e4, f4]
      · cases jc
        · simp [-notN, -isN, c_is_view_of, den_is_view_of, e1, e2, e3, f3]
        · rcases s4 with ⟨e4, rfl⟩ | ⟨e4, f4⟩
          · simp [-notN, -isN, c_is_view_of, den_is_view_of, e1, e2, e3, e4, f3]
          · simp [-notN, -isN, c_is_view_of, den_is_view_of, e1, e2, e3, e4, f3, f4]
    · cases jb
      · simp [-notN, -isN, c_is_view_of, den_is_view_of, e1, e2, f2]
      · rcases s3 with ⟨e3, rfl⟩ | ⟨e3, f3⟩
        · rcases s4 with ⟨e4, rfl⟩ | ⟨e4, f4⟩
          · simp [-notN, -isN, c_is_view_of, den_is_view_of, e1, e2, e3, e4, f2]
          · simp [-notN, -isN, c_is_view_of, den_is_view_of, e1, e2, e3, e4, f2, f4]
        · cases jc
          · simp [-notN, -isN, c_is_view_of, den_is_view_of, e1, e2, e3, f2, f3]
          · rcases s4 with ⟨e4, rfl⟩ | ⟨e4, f4⟩
            · simp [-notN, -isN, c_is_view_of, den_is_view_of, e1, e2, e3, e4, f2, f3]
            · simp [-notN, -isN, c_is_view_of, den_is_view_of, e1, e2, e3, e4, f2, f3, f4]
  · cases ja
    · simp [-notN, -isN, c_is_view_of, den_is_view_of, e1, f1]
    · rcases s2 with ⟨e2, rfl⟩ | ⟨e2, f2⟩
      · rcases s3 with ⟨e3, rfl⟩ | ⟨e3, f3⟩
        · rcases s4 with ⟨e4, rfl⟩ | ⟨e4, f4⟩
          · simp [-notN, -isN, c_is_view_of, den_is_view_of, e1, e2, e3, e4, f1]
          · simp [-notN, -isN, c_is_view_of, den_is_view_of, e1, e2, e3, e4, f1, f4]
        · cases jc
          · simp [-notN, -isN, c_is_view_of, den_is_view_of, e1, e2, e3, f1, f3]
          · rcases s4 with ⟨e4, rfl⟩ | ⟨e4, f4⟩
            · simp [-notN, -isN, c_is_view_of, den_is_view_of, e1, e2, e3, e4, f1, f3]
            · simp [-notN, -isN, c_is_view_of, den_is_view_of, e1, e2, e3, e4, f1, f3, f4]
      · cases jb
        · simp [-notN, -isN, c_is_view_of, den_is_view_of, e1, e2, f1, f2]
        · rcases s3 with ⟨e3, rfl⟩ | ⟨e3, f3⟩
          · rcases s4 with ⟨e4, rfl⟩ | ⟨e4, f4⟩
            · simp [-notN, -isN, c_is_view_of, den_is_view_of, e1, e2, e3, e4, f1, f2]
            · simp [-notN, -isN, c_is_view_of, den_is_view_of, e1, e2, e3, e4, f1, f2, f4]
          · cases jc
            · simp [-notN, -isN, c_is_view_of, den_is_view_of, e1, e2, e3, f1, f2, f3]
            · rcases s4 with ⟨e4, rfl⟩ | ⟨e4, f4⟩
              · simp [-notN, -isN, c_is_view_of, den_is_view_of, e1, e2, e3, e4, f1, f2, f3]
              · simp [-notN, -isN, c_is_view_of, den_is_view_of, e1, e2, e3, e4, f1, f2, f3, f4]
theorem law_view {a b c d : D} (ha : Pt a) (hb : Pt b) (hc : Pt c) (hd : Pt d) : c__law_is_view [l.D, .tup [a, b, c, d]] = .ok (.bl (jview l a b c d)) := by
  have ld : l.D = .tup [.int l.c, .int l.d, .int l.p, .int l.q] := rfl
  have e1 := law_pair_ok ha l.q
  have e2 := law_pair_ok hb l.p
  have e3 := law_two_ok hc l.c
  have e4 := law_two_ok hd l.d
  unfold jview
  generalize jpair l.q a = ja at *
  generalize jpair l.p b = jb at *
  generalize jtwo l.c c = jc at *
  generalize jtwo l.d d = jd at *
  rw [ld]
  cases ja
  · simp [-neD, c__law_is_view, den__law_is_view, neI, e1]
  · cases jb
    · simp [-neD, c__law_is_view, den__law_is_view, neI, e1, e2]
    · cases jc
      · simp [-neD, c__law_is_view, den__law_is_view, neI, e1, e2, e3]
      · simp [-neD, c__law_is_view, den__law_is_view, neI, e1, e2, e3, e4]
theorem view_no {v : D} (hp : pl v = true) (h4 : isTn 4 v = false) : c_is_view_of [l.D, v] = .ok (.bl false) ∧ c__law_is_view [l.D, v] = .ok (.bl false) := by
  have i1 := tuple_of_any hp 4
  rw [h4] at i1
  generalize l.D = ld at *
  refine ⟨by simp [c_is_view_of, den_is_view_of, i1], ?_⟩
  cases v with
  | tup ds =>
    have e : ((ds.length : Int) == 4) = false := h4
    simp [-neD, c__law_is_view, den__law_is_view, neI, e]
  | scr _ => cases hp
  | opq _ => cases hp
  | _ => simp [c__law_is_view, den__law_is_view]
def Jv (l : Lk) (v : D) : Prop := ∃ (b : Bool) (S : Str), c_is_view_of [l.D, v] = .ok (.bl b) ∧ c__law_is_view [l.D, v] = .ok (.bl b) ∧ reprE [v] = some (.str S)
/-- a part that can be shown in a tuple -/
def Sh (v : D) : Prop := ((∀ n, okN (n + 2) v = true) ∨ ∀ n, okE (n + 2) v = true) ∧ wD v ≤ 10000
/-- a part of a view as drawn: nothing, or two numbers -/
def Pl (v : D) : Prop := v = .non ∨ ∃ a b : Int, v = .tup [.int a, .int b] ∧ a.natAbs < BIG ∧ b.natAbs < BIG
theorem Pl.pt {v : D} (h : Pl v) : Pt v := by
  rcases h with rfl | ⟨a, b, rfl, ha, hb⟩
  · exact ⟨rfl, fun ds e => nomatch e⟩
  · refine ⟨rfl, fun ds e => ?_⟩
    cases e
    refine ⟨fun d hd => ?_, by simp⟩
    have : d = .int a ∨ d = .int b := by simpa using hd
    rcases this with rfl | rfl
    · exact ⟨rfl, fun i e => by cases e; exact ha⟩
    · exact ⟨rfl, fun i e => by cases e; exact hb⟩
theorem okEI {n : Nat} {i : Int} (h : i.natAbs < BIG) : okE n (.int i) = true := by
  have : okN n (.int i) = true := okI h
  cases n <;> simpa [okE, okN] using this
theorem Pl.both {v : D} (h : Pl v) : (∀ n, okN (n + 2) v = true) ∧ (∀ n, okE (n + 2) v = true) ∧ wD v ≤ 10000 := by
  rcases h with rfl | ⟨a, b, rfl, ha, hb⟩
  · exact ⟨fun _ => rfl, fun _ => rfl, by simp [wD]⟩
  · refine ⟨fun n => ?_, fun n => ?_, by simp [wD, wDs]⟩
    · show okNs (n + 1) [.int a, .int b] = true
      simp only [okNs, okI ha, okI hb, Bool.and_self]
    · show okEs (n + 1) [.int a, .int b] = true
      simp only [okEs, okEI ha, okEI hb, Bool.and_self]
theorem rep_N {v : D} (h : okN 60 v = true) (w : wD v ≤ 100000) : ∃ S, reprE [v] = some (.str S) := ⟨(pyD v).shown, by simp [h, w]⟩
theorem rep_E {v : D} (h : okE 50 v = true) (w : wD v ≤ 100000) : ∃ S, reprE [v] = some (.str S) := by
  by_cases q : okN 60 v = true
  · exact rep_N q w
  · exact ⟨(pyE v).shown, by simp [h, w, q]⟩
/-- one part is any, the others are plain -/
theorem jv_one {a b c d : D} (ha : Pt a ∧ Sh a) (hb : Pt b ∧ Sh b) (hc : Pt c ∧ Sh c) (hd : Pt d ∧ Sh d) (h3 : (Pl b ∧ Pl c ∧ Pl d) ∨ (Pl a ∧ Pl c ∧ Pl d) ∨ (Pl a ∧ Pl b ∧ Pl d) ∨ (Pl a ∧ Pl b ∧ Pl c)) : Jv l (.tup [a, b, c, d]) := by
  have w : wD (.tup [a, b, c, d]) ≤ 100000 := by
    have := ha.2.2; have := hb.2.2; have := hc.2.2; have := hd.2.2
    simp only [wD, wDs]
    omega
  have fin : (∀ n, okN (n + 2) a = true) → (∀ n, okN (n + 2) b = true) → (∀ n, okN (n + 2) c = true) → (∀ n, okN (n + 2) d = true) → ∃ S, reprE [.tup [a, b, c, d]] = some (.str S) := fun q1 q2 q3 q4 => by
    refine rep_N ?_ w
    show okNs 59 [a, b, c, d] = true
    simp only [okNs, q1 57, q2 57, q3 57, q4 57, Bool.and_self]
  have fin2 : (∀ n, okE (n + 2) a = true) → (∀ n, okE (n + 2) b = true) → (∀ n, okE (n + 2) c = true) → (∀ n, okE (n + 2) d = true) → ∃ S, reprE [.tup [a, b, c, d]] = some (.str S) := fun q1 q2 q3 q4 => by
    refine rep_E ?_ w
    show okEs 49 [a, b, c, d] = true
    simp only [okEs, q1 47, q2 47, q3 47, q4 47, Bool.and_self]
  have hr : ∃ S, reprE [.tup [a, b, c, d]] = some (.str S) := by
    rcases h3 with ⟨h1, h2, h3⟩ | ⟨h1, h2, h3⟩ | ⟨h1, h2, h3⟩ | ⟨h1, h2, h3⟩
    · rcases ha.2.1 with q | q
      · exact fin q h1.both.1 h2.both.1 h3.both.1
      · exact fin2 q h1.both.2.1 h2.both.2.1 h3.both.2.1
    · rcases hb.2.1 with q | q
      · exact fin h1.both.1 q h2.both.1 h3.both.1
      · exact fin2 h1.both.2.1 q h2.both.2.1 h3.both.2.1
    · rcases hc.2.1 with q | q
      · exact fin h1.both.1 h2.both.1 q h3.both.1
      · exact fin2 h1.both.2.1 h2.both.2.1 q h3.both.2.1
    · rcases hd.2.1 with q | q
      · exact fin h1.both.1 h2.both.1 h3.both.1 q
      · exact fin2 h1.both.2.1 h2.both.2.1 h3.both.2.1 q
  obtain ⟨S, hr⟩ := hr
  exact ⟨_, S, prog_view ha.1 hb.1 hc.1 hd.1, law_view ha.1 hb.1 hc.1 hd.1, hr⟩
theorem Pl.ok {v : D} (h : Pl v) : Pt v ∧ Sh v := ⟨h.pt, .inl h.both.1, h.both.2.2⟩
theorem jv_no {v : D} (hp : pl v = true) (h4 : isTn 4 v = false) (hr : ∃ S, reprE [v] = some (.str S)) : Jv l v := by
  obtain ⟨S, hr⟩ := hr
  obtain ⟨e1, e2⟩ := view_no (l := l) hp h4
  exact ⟨false, S, e1, e2, hr⟩
end
end K45


set_option maxHeartbeats 1000000
namespace K45
open DL PySem L2 PG LB L21
section
variable {l : Lk} {x y : Co}
/-! ### the odd ones -/
def PS (v : D) : Prop := Pt v ∧ Sh v
def AllV (l : Lk) (vs : List D) (k : Nat) : Prop := (∀ v, v ∈ vs → Jv l v) ∧ vs.length ≤ k
theorem AllV.app {vs us : List D} {k m : Nat} (h : AllV l vs k) (h2 : AllV l us m) : AllV l (vs ++ us) (k + m) := by
  refine ⟨fun v hv => (List.mem_append.mp hv).elim (h.1 v) (h2.1 v), ?_⟩
  have := h.2
  have := h2.2
  rw [List.length_append]
  omega
theorem AllV.one {v : D} (h : Jv l v) : AllV l [v] 1 := ⟨fun u hu => by rw [List.mem_singleton.mp hu]; exact h, Nat.le_refl _⟩
theorem AllV.cons {v : D} {vs : List D} {k : Nat} (h : Jv l v) (h2 : AllV l vs k) : AllV l (v :: vs) (k + 1) := by
  refine ⟨fun u hu => (List.mem_cons.mp hu).elim (fun e => by rw [e]; exact h) (h2.1 u), ?_⟩
  have := h2.2
  rw [List.length_cons]
  omega
structure Lo (p0 p1 p2 p3 : D) : Prop where
  a : Pl p0
  b : Pl p1
  c : Pl p2
  d : Pl p3
theorem ps_two (a b : Int) (ha : a.natAbs < BIG) (hb : b.natAbs < BIG) : PS (.tup [.int a, .int b]) := (show Pl _ from .inr ⟨a, b, rfl, ha, hb⟩).ok
theorem ps_N {v : D} (hp : pl v = true) (hi : ∀ ds, v = .tup ds → (∀ d, d ∈ ds → It d) ∧ ds.length ≤ 10) (h : ∀ n, okN (n + 2) v = true) (w : wD v ≤ 10000) : PS v := ⟨⟨hp, hi⟩, .inl h, w⟩
theorem it_c {d : D} (h : pl d = true) (hn : ∀ i, d ≠ .int i) : It d := ⟨h, fun i e => absurd e (hn i)⟩
theorem it_i (i : Int) (h : i.natAbs < BIG) : It (.int i) := ⟨rfl, fun j e => by cases e; exact h⟩
theorem its_cons {d : D} {ds : List D} (h : It d) (h2 : ∀ e, e ∈ ds → It e) : ∀ e, e ∈ d :: ds → It e := fun e he => (List.mem_cons.mp he).elim (fun q => by rw [q]; exact h) (h2 e)
theorem its_nil : ∀ e, e ∈ ([] : List D) → It e := fun _ h => nomatch h
def prt1 : List D := [.non, .int 5, .tup [], .tup [.int 0], .tup [.int 0, .int 0, .int 0], .lst [.int 0, .int 0], .tup [.int 0, .bl true], .tup [.bl true, .int 0], .tup [.int 0, .int (0 - 1)], .tup [.int (0 - 1), .int 0], .tup [.int 2, .int 0], .tup [.str (Str.ofString "0"), .int 0], .tup [.non, .int 0], .tup [.dct [], .int 0]]
theorem prt1_ok : ∀ v, v ∈ prt1 → PS v := by
  intro v hv
  have k0 : okN 5 (.int 0) = true := by decide
  have kN : ∀ (n : Nat) (i : Int), i.natAbs < BIG → okN n (.int i) = true := fun n i h => okI h
  have z : ((0 : Int)).natAbs < BIG := by decide
  have : v = .non ∨ v = .int 5 ∨ v = .tup [] ∨ v = .tup [.int 0] ∨ v = .tup [.int 0, .int 0, .int 0] ∨ v = .lst [.int 0, .int 0] ∨ v = .tup [.int 0, .bl true] ∨ v = .tup [.bl true, .int 0] ∨ v = .tup [.int 0, .int (0 - 1)] ∨ v = .tup [.int (0 - 1), .int 0] ∨ v = .tup [.int 2, .int 0] ∨ v = .tup [.str (Str.ofString "0"), .int 0] ∨ v = .tup [.non, .int 0] ∨ v = .tup [.dct [], .int 0] := by simpa [prt1] using hv
  rcases this with rfl | rfl | rfl | rfl | rfl | rfl | rfl | rfl | rfl | rfl | rfl | rfl | rfl | rfl
  · exact (show Pl .non from .inl rfl).ok
  · exact ps_N rfl (fun ds e => nomatch e) (fun n => okI (by decide)) (by decide)
  · exact ps_N rfl (fun ds e => by cases e; exact ⟨its_nil, by decide⟩) (fun n => rfl) (by decide)
  · exact ps_N rfl (fun ds e => by cases e; exact ⟨its_cons (it_i _ z) its_nil, by decide⟩) (fun n => by show okNs (n + 1) _ = true; simp only [okNs, kN _ 0 z, Bool.and_self]) (by decide)
  · exact ps_N rfl (fun ds e => by cases e; exact ⟨its_cons (it_i _ z) (its_cons (it_i _ z) (its_cons (it_i _ z) its_nil)), by decide⟩) (fun n => by show okNs (n + 1) _ = true; simp only [okNs, kN _ 0 z, Bool.and_self]) (by decide)
  · exact ps_N rfl (fun ds e => nomatch e) (fun n => by show okNs (n + 1) _ = true; simp only [okNs, kN _ 0 z, Bool.and_self]) (by decide)
  · exact ps_N rfl (fun ds e => by cases e; exact ⟨its_cons (it_i _ z) (its_cons (it_c rfl (fun _ h => nomatch h)) its_nil), by decide⟩) (fun n => by show okNs (n + 1) _ = true; simp only [okNs, kN _ 0 z, bl_ok, Bool.and_self]) (by decide)
  · exact ps_N rfl (fun ds e => by cases e; exact ⟨its_cons (it_c rfl (fun _ h => nomatch h)) (its_cons (it_i _ z) its_nil), by decide⟩) (fun n => by show okNs (n + 1) _ = true; simp only [okNs, kN _ 0 z, bl_ok, Bool.and_self]) (by decide)
  · exact ps_two _ _ (by decide) (by decide)
  · exact ps_two _ _ (by decide) (by decide)
  · exact ps_two _ _ (by decide) (by decide)
  · have s : ∀ n, okN n (.str (Str.ofString "0")) = true := fun n => by rw [str_ok]; decide
    exact ps_N rfl (fun ds e => by cases e; exact ⟨its_cons (it_c rfl (fun _ h => nomatch h)) (its_cons (it_i _ z) its_nil), by decide⟩) (fun n => by show okNs (n + 1) _ = true; simp only [okNs, kN _ 0 z, s, Bool.and_self]) (by decide)
  · exact ps_N rfl (fun ds e => by cases e; exact ⟨its_cons (it_c rfl (fun _ h => nomatch h)) (its_cons (it_i _ z) its_nil), by decide⟩) (fun n => by show okNs (n + 1) _ = true; simp only [okNs, kN _ 0 z, non_ok, Bool.and_self]) (by decide)
  · refine ⟨⟨rfl, fun ds e => by cases e; exact ⟨its_cons (it_c rfl (fun _ h => nomatch h)) (its_cons (it_i _ z) its_nil), by decide⟩⟩, .inr fun n => ?_, by decide⟩
    show okEs (n + 1) _ = true
    simp only [okEs, okE, List.isEmpty_nil]
    decide
def prt2 (l : Lk) : List D := prt1 ++ [.tup [.int 0, .int l.c], .tup [.int 0, .int l.d], .tup [.int 0, .int l.p], .tup [.int 0, .int l.q]] ++ [.tup [.int l.c, .int 0], .tup [.int l.d, .int 0], .tup [.int l.p, .int 0], .tup [.int l.q, .int 0]]
def prt3 (l : Lk) : List D := prt2 l ++ [.tup [.int 1, .int (l.c - 1)], .tup [.int 1, .int (l.d - 1)], .tup [.int 1, .int (l.p - 1)], .tup [.int 1, .int (l.q - 1)]] ++ [.tup [.int 0, .int (l.c + 1)], .tup [.int 0, .int (l.d + 1)], .tup [.int 0, .int (l.p + 1)], .tup [.int 0, .int (l.q + 1)]]
theorem prt3_ok (lo : l.Ok) (ls : l.Small) : ∀ v, v ∈ prt3 l → PS v := by
  have l1 := ls.c; have l2 := ls.d; have l3 := ls.p; have l4 := ls.q
  have k1 := lo.c; have k2 := lo.d; have k3 := lo.p; have k4 := lo.q
  have four : ∀ (a b c d e f g h : Int), a.natAbs < BIG → b.natAbs < BIG → c.natAbs < BIG → d.natAbs < BIG → e.natAbs < BIG → f.natAbs < BIG → g.natAbs < BIG → h.natAbs < BIG → ∀ v, v ∈ [D.tup [.int a, .int b], .tup [.int c, .int d], .tup [.int e, .int f], .tup [.int g, .int h]] → PS v := by
    intro a b c d e f g h ha hb hc hd he hf hg hh v hv
    have : v = .tup [.int a, .int b] ∨ v = .tup [.int c, .int d] ∨ v = .tup [.int e, .int f] ∨ v = .tup [.int g, .int h] := by simpa using hv
    rcases this with rfl | rfl | rfl | rfl
    · exact ps_two _ _ ha hb
    · exact ps_two _ _ hc hd
    · exact ps_two _ _ he hf
    · exact ps_two _ _ hg hh
  have B : ∀ i : Int, -10 ≤ i → i ≤ 100000000000000000000000000010 → i.natAbs < BIG := fun i h1 h2 => by show i.natAbs < 1606938044258990275541962092341162602522202993782792835301376; omega
  intro v hv
  rcases List.mem_append.mp hv with hv | hv
  · rcases List.mem_append.mp hv with hv | hv
    · rcases List.mem_append.mp hv with hv | hv
      · rcases List.mem_append.mp hv with hv | hv
        · exact prt1_ok v hv
        · exact four _ _ _ _ _ _ _ _ (B _ (by omega) (by omega)) (B _ (by omega) (by omega)) (B _ (by omega) (by omega)) (B _ (by omega) (by omega)) (B _ (by omega) (by omega)) (B _ (by omega) (by omega)) (B _ (by omega) (by omega)) (B _ (by omega) (by omega)) v hv
      · exact four _ _ _ _ _ _ _ _ (B _ (by omega) (by omega)) (B _ (by omega) (by omega)) (B _ (by omega) (by omega)) (B _ (by omega) (by omega)) (B _ (by omega) (by omega)) (B _ (by omega) (by omega)) (B _ (by omega) (by omega)) (B _ (by omega) (by omega)) v hv
    · exact four _ _ _ _ _ _ _ _ (B _ (by omega) (by omega)) (B _ (by omega) (by omega)) (B _ (by omega) (by omega)) (B _ (by omega) (by omega)) (B _ (by omega) (by omega)) (B _ (by omega) (by omega)) (B _ (by omega) (by omega)) (B _ (by omega) (by omega)) v hv
  · exact four _ _ _ _ _ _ _ _ (B _ (by omega) (by omega)) (B _ (by omega) (by omega)) (B _ (by omega) (by omega)) (B _ (by omega) (by omega)) (B _ (by omega) (by omega)) (B _ (by omega) (by omega)) (B _ (by omega) (by omega)) (B _ (by omega) (by omega)) v hv
abbrev oE (g : D) (l : Lk) (ps : List D) (fs prts : List D) (rest : List (Option D)) : DL.Env := some g :: some l.D :: some (.tup ps) :: some (.lst fs) :: some (.lst prts) :: rest
theorem odd_turn {m : Int} {g : D} (hg : GenOk m g) (hm : m < 100000000) {p0 p1 p2 p3 : D} (hL : Lo p0 p1 p2 p3) (fs prts : List D) {k : Nat} (hk : k ≤ 1000) (hf : AllV l fs k) (v : D) (hv : PS v) (y6 y7 : Option D) :
    ∃ g' fs' z6, b__law_odd_5 (oE g l [p0, p1, p2, p3] fs prts [some v, y6, y7]) = .nx (oE g' l [p0, p1, p2, p3] fs' prts [some v, z6, y7]) ∧ AllV l fs' (k + 1) ∧ GenOk (m + 6) g' := by
  obtain ⟨r, g', e, r1, r2, hg'⟩ := random_ok (bd := 4) hg (by omega) (by decide) (by decide)
  have hl : fs.length < 100000 := by have := hf.2; omega
  have q0 : (sSet 6 (fCallG 0 c__law_random (aCons (fC (.int 4)) aNil))) (oE g l [p0, p1, p2, p3] fs prts [some v, y6, y7]) = .nx (oE g' l [p0, p1, p2, p3] fs prts [some v, some (.int r), y7]) := by
    simp [e]
  have key : ∀ ws : List D, Jv l (.tup ws) → p__law_odd_4 (oE g' l [p0, p1, p2, p3] fs prts [some v, some (.int r), y7]) = .nx (oE g' l [p0, p1, p2, p3] (fs ++ [.tup ws]) prts [some v, some (.int r), y7]) → ∃ g' fs' z6, b__law_odd_5 (oE g l [p0, p1, p2, p3] fs prts [some v, y6, y7]) = .nx (oE g' l [p0, p1, p2, p3] fs' prts [some v, z6, y7]) ∧ AllV l fs' (k + 1) ∧ GenOk (m + 6) g' :=
    fun ws hj q => ⟨g', fs ++ [.tup ws], some (.int r), (seq_nx q0).trans q, hf.app (.one hj), hg'⟩
  have : r = 0 ∨ r = 1 ∨ r = 2 ∨ r = 3 := by omega
  rcases this with rfl | rfl | rfl | rfl
  · exact key [v, p1, p2, p3] (jv_one hv hL.b.ok hL.c.ok hL.d.ok (.inl ⟨hL.b, hL.c, hL.d⟩)) (by simp [-rng1D, rg4, p__law_odd_4, hl])
  · exact key [p0, v, p2, p3] (jv_one hL.a.ok hv hL.c.ok hL.d.ok (.inr (.inl ⟨hL.a, hL.c, hL.d⟩))) (by simp [-rng1D, rg4, p__law_odd_4, hl])
  · exact key [p0, p1, v, p3] (jv_one hL.a.ok hL.b.ok hv hL.d.ok (.inr (.inr (.inl ⟨hL.a, hL.b, hL.d⟩)))) (by simp [-rng1D, rg4, p__law_odd_4, hl])
  · exact key [p0, p1, p2, v] (jv_one hL.a.ok hL.b.ok hL.c.ok hv (.inr (.inr (.inr ⟨hL.a, hL.b, hL.c⟩)))) (by simp [-rng1D, rg4, p__law_odd_4, hl])
theorem odd_loop {p0 p1 p2 p3 : D} (hL : Lo p0 p1 p2 p3) (prts : List D) : ∀ (vs : List D) (m : Int) (g : D) (fs : List D) (k : Nat) (y5 y6 y7 : Option D), (∀ v, v ∈ vs → PS v) → GenOk m g → m + 6 * vs.length < 100000000 → k + vs.length ≤ 1000 → AllV l fs k →
    ∃ g' fs' z5 z6, forL (gN 5) b__law_odd_5 vs (oE g l [p0, p1, p2, p3] fs prts [y5, y6, y7]) = .nx (oE g' l [p0, p1, p2, p3] fs' prts [z5, z6, y7]) ∧ AllV l fs' (k + vs.length) ∧ GenOk (m + 6 * vs.length) g'
  | [], m, g, fs, k, y5, y6, y7, _, hg, _, _, hf => ⟨g, fs, y5, y6, rfl, hf, hg.mono (by simp)⟩
  | v :: vs, m, g, fs, k, y5, y6, y7, hv, hg, hm, hk, hf => by
    rw [List.length_cons] at hm hk
    obtain ⟨g1, f1, z6, e1, h1, hg1⟩ := odd_turn hg (by omega) hL fs prts (k := k) (by omega) hf v (hv v List.mem_cons_self) y6 y7
    obtain ⟨g2, f2, w5, w6, e2, h2, hg2⟩ := odd_loop hL prts vs (m + 6) g1 f1 (k + 1) (some v) z6 y7 (fun u hu => hv u (List.mem_cons_of_mem _ hu)) hg1 (by omega) (by omega) h1
    refine ⟨g2, f2, w5, w6, (for_cons rfl e1).trans e2, ⟨h2.1, by have := h2.2; rw [List.length_cons]; omega⟩, hg2.mono (by rw [List.length_cons]; omega)⟩
theorem odd_ok {m : Int} {g : D} (lo : l.Ok) (ls : l.Small) (hg : GenOk m g) (hm : m < 10000000) {p0 p1 p2 p3 : D} (hL : Lo p0 p1 p2 p3) :
    ∃ g' vs, c__law_odd [g, l.D, .tup [p0, p1, p2, p3]] = .ok (.lst vs) g' ∧ (∀ v, v ∈ vs → Jv l v) ∧ GenOk (m + 200) g' := by
  have rep : ∀ v : D, Pl p0 → okN 60 v = true → wD v ≤ 100000 → ∃ S, reprE [v] = some (.str S) := fun v _ h w => rep_N h w
  have o : okNs 59 [p0, p1, p2, p3] = true := by simp only [okNs, hL.a.both.1 57, hL.b.both.1 57, hL.c.both.1 57, hL.d.both.1 57, Bool.and_self]
  have o3 : okNs 59 [p0, p1, p2] = true := by simp only [okNs, hL.a.both.1 57, hL.b.both.1 57, hL.c.both.1 57, Bool.and_self]
  have o5 : okNs 59 [p0, p1, p2, p3, .non] = true := by simp only [okNs, hL.a.both.1 57, hL.b.both.1 57, hL.c.both.1 57, hL.d.both.1 57, non_ok, Bool.and_self]
  have w0 := hL.a.both.2.2; have w1 := hL.b.both.2.2; have w2 := hL.c.both.2.2; have w3 := hL.d.both.2.2
  have hj : AllV l [.tup [p0, p1, p2, p3], .non, .int 5, .str (Str.ofString ""), .tup [], .lst [], .dct [], .lst [p0, p1, p2, p3], .tup [p0, p1, p2], .tup [p0, p1, p2, p3, .non]] 10 := by
    refine .cons (jv_one hL.a.ok hL.b.ok hL.c.ok hL.d.ok (.inl ⟨hL.b, hL.c, hL.d⟩)) (.cons (jv_no rfl rfl (rep_N rfl (by decide))) (.cons (jv_no rfl rfl (rep_N rfl (by decide))) (.cons (jv_no rfl rfl (rep_N rfl (by decide))) (.cons (jv_no rfl rfl (rep_N rfl (by decide))) (.cons (jv_no rfl rfl (rep_N rfl (by decide))) (.cons (jv_no rfl rfl ⟨_, rfl⟩) (.cons (jv_no rfl rfl (rep_N o ?_)) (.cons (jv_no rfl rfl (rep_N o3 ?_)) (.one (jv_no rfl rfl (rep_N o5 ?_))))))))))) <;> (simp only [wD, wDs]; omega)
  generalize hF : [D.tup [p0, p1, p2, p3], .non, .int 5, .str (Str.ofString ""), .tup [], .lst [], .dct [], .lst [p0, p1, p2, p3], .tup [p0, p1, p2], .tup [p0, p1, p2, p3, .non]] = f0 at hj
  have c3 : cutD [p0, p1, p2, p3] none (some 3) = [p0, p1, p2] := rfl
  have q0 : p__law_odd_0 (startD N__law_odd [g, l.D, .tup [p0, p1, p2, p3]]) = .nx [some g, some l.D, some (.tup [p0, p1, p2, p3]), some (.lst f0), none, none, none, none] := by
    rw [← hF]
    simp [p__law_odd_0, c3]
  have q1 : p__law_odd_1 [some g, some l.D, some (.tup [p0, p1, p2, p3]), some (.lst f0), none, none, none, none] = .nx (oE g l [p0, p1, p2, p3] f0 prt1 [none, none, none]) := by
    simp [p__law_odd_1, prt1]
  have ld : l.D = .tup [.int l.c, .int l.d, .int l.p, .int l.q] := rfl
  have n1 : prt1.length = 14 := rfl
  have n2 : (prt2 l).length = 22 := rfl
  have n3 : (prt3 l).length = 30 := rfl
  have q2 : p__law_odd_2 (oE g l [p0, p1, p2, p3] f0 prt1 [none, none, none]) = .nx (oE g l [p0, p1, p2, p3] f0 (prt2 l) [none, none, none]) := by
    unfold prt2
    generalize prt1 = pp at *
    simp [-rng1D, rg4, p__law_odd_2, Lk.D, n1]
  have q3 : p__law_odd_3 (oE g l [p0, p1, p2, p3] f0 (prt2 l) [none, none, none]) = .nx (oE g l [p0, p1, p2, p3] f0 (prt3 l) [none, none, none]) := by
    unfold prt3
    generalize prt2 l = pp at *
    simp [-rng1D, rg4, p__law_odd_3, Lk.D, n2]
  obtain ⟨g', vs, z5, z6, e, h, hg'⟩ := odd_loop (l := l) hL (prt3 l) (prt3 l) m g f0 10 none none none (prt3_ok lo ls) hg (by rw [n3]; omega) (by rw [n3]; omega) hj
  have q6 : p__law_odd_6 (oE g l [p0, p1, p2, p3] f0 (prt3 l) [none, none, none]) = .nx (oE g' l [p0, p1, p2, p3] vs (prt3 l) [z5, z6, none]) := by
    refine for_at (ρ1 := oE g l [p0, p1, p2, p3] f0 (prt3 l) [none, none, none]) (ds := prt3 l) ?_ e
    generalize prt3 l = pp at *
    simp
  refine ⟨g', vs, (gen_at rfl ((seq_nx q0).trans ((seq_nx q1).trans ((seq_nx q2).trans ((seq_nx q3).trans ((seq_nx q6).trans (show sRetV 3 _ = .rt (.lst vs) [some g', some l.D, some (.tup [p0, p1, p2, p3]), none, some (.lst (prt3 l)), z5, z6, none] from ?_))))))).trans rfl, h.1, hg'.mono (by rw [n3]; omega)⟩
  simp
end
end K45


set_option maxHeartbeats 1000000
namespace K45
open DL PySem L2 PG LB L21
/-! ### views -/
def oD : Option (Int × Int) → D
  | none => .non
  | some p => .tup [.int p.1, .int p.2]
structure Vw where
  s : Option (Int × Int)
  r : Option (Int × Int)
  t : Option (Int × Int)
  k : Option (Int × Int)
def Vw.D (v : Vw) : D := .tup [oD v.s, oD v.r, oD v.t, oD v.k]
def okP (q : Int) : Option (Int × Int) → Prop
  | none => True
  | some p => (0 ≤ p.1 ∧ p.1 < 2) ∧ 0 ≤ p.2 ∧ p.2 < q
def okT (q : Int) : Option (Int × Int) → Prop
  | none => True
  | some p => 0 ≤ p.1 ∧ 0 ≤ p.2 ∧ p.1 + p.2 ≤ q
structure Vw.Ok (l : Lk) (v : Vw) : Prop where
  s : okP l.q v.s
  r : okP l.p v.r
  t : okT l.c v.t
  k : okT l.d v.k
section
variable {l : Lk} {x y : Co} {v : Vw}
theorem pl_P {q : Int} (hq : q ≤ 1000000000000000000000000000000) {o : Option (Int × Int)} (h : okP q o) : Pl (oD o) ∧ jpair q (oD o) = true := by
  cases o with
  | none => exact ⟨.inl rfl, rfl⟩
  | some p =>
    obtain ⟨⟨a, b⟩, c, d⟩ := h
    refine ⟨.inr ⟨p.1, p.2, rfl, by show p.1.natAbs < 1606938044258990275541962092341162602522202993782792835301376; omega, by show p.2.natAbs < 1606938044258990275541962092341162602522202993782792835301376; omega⟩, ?_⟩
    show ((decide (0 ≤ p.1) && decide (p.1 < 2)) && (decide (0 ≤ p.2) && decide (p.2 < q))) = true
    simp [a, b, c, d]
theorem pl_T {q : Int} (hq : q ≤ 1000000000000000000000000000000) {o : Option (Int × Int)} (h : okT q o) : Pl (oD o) ∧ jtwo q (oD o) = true := by
  cases o with
  | none => exact ⟨.inl rfl, rfl⟩
  | some p =>
    obtain ⟨a, b, c⟩ := h
    refine ⟨.inr ⟨p.1, p.2, rfl, by show p.1.natAbs < 1606938044258990275541962092341162602522202993782792835301376; omega, by show p.2.natAbs < 1606938044258990275541962092341162602522202993782792835301376; omega⟩, ?_⟩
    show ((decide (0 ≤ p.1) && decide (0 ≤ p.2)) && decide (p.1 + p.2 ≤ q)) = true
    simp [a, b, c]
theorem Vw.lo (ls : l.Small) (h : v.Ok l) : Lo (oD v.s) (oD v.r) (oD v.t) (oD v.k) := by
  have l1 := ls.c; have l2 := ls.d; have l3 := ls.p; have l4 := ls.q
  exact ⟨(pl_P (by omega) h.s).1, (pl_P (by omega) h.r).1, (pl_T (by omega) h.t).1, (pl_T (by omega) h.k).1⟩
theorem is_view_of_ok (ls : l.Small) (h : v.Ok l) : c_is_view_of [l.D, v.D] = .ok (.bl true) := by
  have l1 := ls.c; have l2 := ls.d; have l3 := ls.p; have l4 := ls.q
  have lo := Vw.lo ls h
  have := prog_view (l := l) lo.a.pt lo.b.pt lo.c.pt lo.d.pt
  rw [show jview l (oD v.s) (oD v.r) (oD v.t) (oD v.k) = true by unfold jview; rw [(pl_P (by omega) h.s).2, (pl_P (by omega) h.r).2, (pl_T (by omega) h.t).2, (pl_T (by omega) h.k).2]; rfl] at this
  exact this
theorem is_view_any (lo : l.Ok) {v : D} {b : Bool} (e : c_is_view_of [l.D, v] = .ok (.bl b)) : c_is_view [l.D, v] = .ok (.bl b) := by
  have e1 := need_link_ok lo
  generalize l.D = ld at *
  simp [c_is_view, den_is_view, e1, e]
theorem need_view_ok (ls : l.Small) (h : v.Ok l) : c_need_view [l.D, v.D] = .ok .non := by
  have e := is_view_of_ok ls h
  generalize l.D = ld at *
  generalize v.D = vd at *
  simp [c_need_view, den_need_view, e]
def lotN : Lot → Int
  | .none => 0
  | .old k => k
  | .new k => k
def seenV (x : Co) : Vw := ⟨some (x.b0, x.h), some (x.b1, lotN x.lot), some (if x.b0 = 0 then (x.t1 + x.t0, x.t2) else (x.t1, x.t2 + x.t0)), some (x.k0, x.k1)⟩
theorem seen_of_ok : c_seen_of [x.d] = .ok (seenV x).D := by
  cases x with
  | mk b0 hh b1 lot done t0 t1 t2 k0 k1 =>
    by_cases h0 : b0 = 0
    · subst h0
      cases lot <;> simp [c_seen_of, den_seen_of, Co.d, Lot.d, seenV, lotN, Vw.D, oD]
    · have h0' : (b0 == 0) = false := beq_eq_false_iff_ne.mpr h0
      cases lot <;> simp [c_seen_of, den_seen_of, Co.d, Lot.d, seenV, lotN, Vw.D, oD, h0, h0']
theorem law_seen_ok : c__law_seen [x.d] = .ok (seenV x).D := by
  cases x with
  | mk b0 hh b1 lot done t0 t1 t2 k0 k1 =>
    by_cases h0 : b0 = 0
    · subst h0
      cases lot <;> simp [c__law_seen, den__law_seen, Co.d, Lot.d, seenV, lotN, Vw.D, oD]
    · have h0' : (b0 == 0) = false := beq_eq_false_iff_ne.mpr h0
      cases lot <;> simp [c__law_seen, den__law_seen, Co.d, Lot.d, seenV, lotN, Vw.D, oD, h0, h0']
theorem view_of_ok (lo : l.Ok) (h : x.Ok l) : c_view_of [l.D, x.d] = .ok (seenV x).D := by
  have e1 := need_contents_ok lo h
  have e2 := seen_of_ok (x := x)
  generalize x.d = xd at *
  simp [c_view_of, den_view_of, e1, e2]
theorem seenV_ok (lo : l.Ok) (h : x.Ok l) : (seenV x).Ok l := by
  have a1 := h.b0; have a2 := h.b1; have a3 := h.h0; have a4 := h.h1; have a5 := h.t0; have a6 := h.t1; have a7 := h.t2; have a8 := h.t; have a9 := h.k0; have a10 := h.k1; have a11 := h.k
  have p := lo.p
  refine ⟨⟨⟨by show 0 ≤ x.b0; omega, by show x.b0 < 2; omega⟩, a3, a4⟩, ⟨⟨by show 0 ≤ x.b1; omega, by show x.b1 < 2; omega⟩, ?_⟩, ?_, ⟨a9, a10, a11⟩⟩
  · have hl := h.lot
    show 0 ≤ lotN x.lot ∧ lotN x.lot < l.p
    cases hx : x.lot with
    | none => exact ⟨Int.le_refl 0, p⟩
    | old k => rw [hx] at hl; exact ⟨by have := hl.1; show 0 ≤ k; omega, hl.2⟩
    | new k => rw [hx] at hl; exact ⟨by have := hl.1; show 0 ≤ k; omega, hl.2.1⟩
  · show okT l.c (some (if x.b0 = 0 then (x.t1 + x.t0, x.t2) else (x.t1, x.t2 + x.t0)))
    split
    · exact ⟨by show 0 ≤ x.t1 + x.t0; omega, a7, by show x.t1 + x.t0 + x.t2 ≤ l.c; omega⟩
    · exact ⟨a6, by show 0 ≤ x.t2 + x.t0; omega, by show x.t1 + (x.t2 + x.t0) ≤ l.c; omega⟩
/-! covered -/
def plD (c0 c1 c2 c3 : Bool) : List D := (if c0 = true then [.int 0] else []) ++ ((if c1 = true then [.int 1] else []) ++ ((if c2 = true then [.int 2] else []) ++ (if c3 = true then [.int 3] else [])))
theorem pl_in (c0 c1 c2 c3 : Bool) : inA (.int 0) (.lst (plD c0 c1 c2 c3)) = some (.bl c0) ∧ inA (.int 1) (.lst (plD c0 c1 c2 c3)) = some (.bl c1) ∧ inA (.int 2) (.lst (plD c0 c1 c2 c3)) = some (.bl c2) ∧ inA (.int 3) (.lst (plD c0 c1 c2 c3)) = some (.bl c3) := by
  cases c0 <;> cases c1 <;> cases c2 <;> cases c3 <;> exact ⟨rfl, rfl, rfl, rfl⟩
theorem pl_places (c0 c1 c2 c3 : Bool) : c_are_places [.lst (plD c0 c1 c2 c3)] = .ok (.bl true) := by
  cases c0 <;> cases c1 <;> cases c2 <;> cases c3 <;> simp [c_are_places, den_are_places, plD, cutD, HT.sIx] <;> rfl
theorem pl_rep (c0 c1 c2 c3 : Bool) : ∃ S, reprE [.lst (plD c0 c1 c2 c3)] = some (.str S) := by
  cases c0 <;> cases c1 <;> cases c2 <;> cases c3 <;> exact ⟨_, rfl⟩
def covV (v : Vw) (c0 c1 c2 c3 : Bool) : Vw := ⟨if c0 = true then none else v.s, if c1 = true then none else v.r, if c2 = true then none else v.t, if c3 = true then none else v.k⟩
theorem covV_ok (h : v.Ok l) (c0 c1 c2 c3 : Bool) : (covV v c0 c1 c2 c3).Ok l := by
  obtain ⟨a, b, c, d⟩ := h
  refine ⟨?_, ?_, ?_, ?_⟩
  · show okP l.q (if c0 = true then none else v.s); cases c0 <;> first | exact trivial | exact a
  · show okP l.p (if c1 = true then none else v.r); cases c1 <;> first | exact trivial | exact b
  · show okT l.c (if c2 = true then none else v.t); cases c2 <;> first | exact trivial | exact c
  · show okT l.d (if c3 = true then none else v.k); cases c3 <;> first | exact trivial | exact d
theorem oD_if (c : Bool) (o : Option (Int × Int)) : oD (if c = true then none else o) = if c = true then .non else oD o := by cases c <;> rfl
theorem covered_ok (lo : l.Ok) (ls : l.Small) (h : v.Ok l) (c0 c1 c2 c3 : Bool) : c_covered [l.D, v.D, .lst (plD c0 c1 c2 c3)] = .ok (covV v c0 c1 c2 c3).D := by
  have e1 := need_link_ok lo
  have e2 := need_view_ok ls h
  have e3 := pl_places c0 c1 c2 c3
  obtain ⟨i0, i1, i2, i3⟩ := pl_in c0 c1 c2 c3
  unfold covV Vw.D at *
  simp only [oD_if]
  generalize plD c0 c1 c2 c3 = ps at *
  generalize l.D = ld at *
  generalize oD v.s = pa at *
  generalize oD v.r = pb at *
  generalize oD v.t = pc at *
  generalize oD v.k = pd at *
  cases c0 <;> cases c1 <;> cases c2 <;> cases c3 <;> simp [-inA, c_covered, den_covered, placeD, e1, e2, e3, i0, i1, i2, i3]
end
end K45


set_option maxHeartbeats 1000000
namespace K45
open DL PySem L2 PG LB L21
section
variable {l : Lk} {x y : Co} {v : Vw}
/-! looks so -/
def partB : Option (Int × Int) → Int × Int → Bool
  | none, _ => true
  | some p, q => (p.1 == q.1) && (p.2 == q.2)
def Sm2 (p : Int × Int) : Prop := p.1.natAbs < BIG ∧ p.2.natAbs < BIG
theorem ok_two {p : Int × Int} (h : Sm2 p) (n : Nat) : okN (n + 1) (.tup [.int p.1, .int p.2]) = true := by
  show okNs n [.int p.1, .int p.2] = true
  simp only [okNs, okI h.1, okI h.2, Bool.and_self]
theorem eq_two {p q : Int × Int} (hp : Sm2 p) (hq : Sm2 q) : eqB (.tup [.int p.1, .int p.2]) (.tup [.int q.1, .int q.2]) = some ((p.1 == q.1) && (p.2 == q.2)) := by
  have h1 := ok_two hp 59
  have h2 := ok_two hq 59
  unfold eqB
  simp only [h1, h2, Bool.and_self, if_true, pyD, pyDs, PyData.eqv, PyData.eqvAll, Bool.and_true]
theorem part_prog (o : Option (Int × Int)) (q : Int × Int) (ho : ∀ p, o = some p → Sm2 p) (hq : Sm2 q) : (isN (oD o) .non = some (.bl true) ∧ partB o q = true) ∨ (isN (oD o) .non = some (.bl false) ∧ eqD (oD o) (oD (some q)) = some (.bl (partB o q))) := by
  cases o with
  | none => exact .inl ⟨rfl, rfl⟩
  | some p =>
    refine .inr ⟨rfl, ?_⟩
    unfold eqD
    show (eqB (.tup [.int p.1, .int p.2]) (.tup [.int q.1, .int q.2])).map _ = _
    rw [eq_two (ho p rfl) hq]
    rfl
theorem part_law (o : Option (Int × Int)) (q : Int × Int) (ho : ∀ p, o = some p → Sm2 p) (hq : Sm2 q) : (notN (oD o) .non = some (.bl false) ∧ partB o q = true) ∨ (notN (oD o) .non = some (.bl true) ∧ neD (oD o) (oD (some q)) = some (.bl (!partB o q))) := by
  cases o with
  | none => exact .inl ⟨rfl, rfl⟩
  | some p =>
    refine .inr ⟨rfl, ?_⟩
    unfold neD
    show (eqB (.tup [.int p.1, .int p.2]) (.tup [.int q.1, .int q.2])).map _ = _
    rw [eq_two (ho p rfl) hq]
    rfl
structure Sn where
  s : Int × Int
  r : Int × Int
  t : Int × Int
  k : Int × Int
def Sn.V (n : Sn) : Vw := ⟨some n.s, some n.r, some n.t, some n.k⟩
def fitB (v : Vw) (n : Sn) : Bool := partB v.s n.s && (partB v.r n.r && (partB v.t n.t && partB v.k n.k))
def seenN (x : Co) : Sn := ⟨(x.b0, x.h), (x.b1, lotN x.lot), if x.b0 = 0 then (x.t1 + x.t0, x.t2) else (x.t1, x.t2 + x.t0), (x.k0, x.k1)⟩
theorem seenN_V : (seenN x).V = seenV x := rfl
theorem sm_P {q : Int} (hq : q ≤ 1000000000000000000000000000000) {o : Option (Int × Int)} (h : okP q o) : ∀ p, o = some p → Sm2 p := by
  rintro p rfl
  obtain ⟨⟨a, b⟩, c, d⟩ := h
  exact ⟨by show p.1.natAbs < 1606938044258990275541962092341162602522202993782792835301376; omega, by show p.2.natAbs < 1606938044258990275541962092341162602522202993782792835301376; omega⟩
theorem sm_T {q : Int} (hq : q ≤ 1000000000000000000000000000000) {o : Option (Int × Int)} (h : okT q o) : ∀ p, o = some p → Sm2 p := by
  rintro p rfl
  obtain ⟨a, b, c⟩ := h
  exact ⟨by show p.1.natAbs < 1606938044258990275541962092341162602522202993782792835301376; omega, by show p.2.natAbs < 1606938044258990275541962092341162602522202993782792835301376; omega⟩
structure SmV (v : Vw) : Prop where
  s : ∀ p, v.s = some p → Sm2 p
  r : ∀ p, v.r = some p → Sm2 p
  t : ∀ p, v.t = some p → Sm2 p
  k : ∀ p, v.k = some p → Sm2 p
theorem Vw.Ok.sm (ls : l.Small) (h : v.Ok l) : SmV v := by
  have l1 := ls.c; have l2 := ls.d; have l3 := ls.p; have l4 := ls.q
  exact ⟨sm_P (by omega) h.s, sm_P (by omega) h.r, sm_T (by omega) h.t, sm_T (by omega) h.k⟩
theorem fits_ok' (h : SmV v) (n : Sn) (hn : SmV n.V) (hs : c_seen_of [x.d] = .ok n.V.D) : c_fits_view [x.d, v.D] = .ok (.bl (fitB v n)) := by
  have a := part_prog v.s n.s h.s (hn.s _ rfl)
  have b := part_prog v.r n.r h.r (hn.r _ rfl)
  have c := part_prog v.t n.t h.t (hn.t _ rfl)
  have d := part_prog v.k n.k h.k (hn.k _ rfl)
  have vd : v.D = .tup [oD v.s, oD v.r, oD v.t, oD v.k] := rfl
  have nd : n.V.D = .tup [oD (some n.s), oD (some n.r), oD (some n.t), oD (some n.k)] := rfl
  rw [nd] at hs
  rw [vd]
  unfold fitB
  have four : ∀ b0 b1 b2 b3 : Bool, allF [.lst [.bl b0, .bl b1, .bl b2, .bl b3]] = some (.bl (b0 && (b1 && (b2 && b3)))) := by
    intro b0 b1 b2 b3
    cases b0 <;> cases b1 <;> cases b2 <;> cases b3 <;> rfl
  have f0 := four (partB v.s n.s) (partB v.r n.r) (partB v.t n.t) (partB v.k n.k)
  generalize partB v.s n.s = p0 at *
  generalize partB v.r n.r = p1 at *
  generalize partB v.t n.t = p2 at *
  generalize partB v.k n.k = p3 at *
  generalize oD v.s = s0 at *
  generalize oD v.r = s1 at *
  generalize oD v.t = s2 at *
  generalize oD v.k = s3 at *
  generalize oD (some n.s) = n0 at *
  generalize oD (some n.r) = n1 at *
  generalize oD (some n.t) = n2 at *
  generalize oD (some n.k) = n3 at *
  generalize x.d = xd at *
  rcases a with ⟨a1, rfl⟩ | ⟨a1, a2⟩ <;> rcases b with ⟨b1, rfl⟩ | ⟨b1, b2⟩ <;> rcases c with ⟨c1, rfl⟩ | ⟨c1, c2⟩ <;> rcases d with ⟨d1, rfl⟩ | ⟨d1, d2⟩ <;> simp [-isN, -eqD, -allF, c_fits_view, den_fits_view, hs, pairD, f0, *]
theorem looks_so_ok (lo : l.Ok) (ls : l.Small) (h : x.Ok l) (hv : v.Ok l) : c_looks_so [l.D, x.d, v.D] = .ok (.bl (fitB v (seenN x))) := by
  have e1 := need_contents_ok lo h
  have e2 := need_view_ok ls hv
  have e3 := fits_ok' (x := x) (hv.sm ls) (seenN x) ((seenV_ok lo h).sm ls) seen_of_ok
  generalize x.d = xd at *
  generalize v.D = vd at *
  simp [c_looks_so, den_looks_so, e1, e2, e3]
def partAt (v : Vw) (n : Sn) (i : Int) : Bool := if i = 0 then partB v.s n.s else if i = 1 then partB v.r n.r else if i = 2 then partB v.t n.t else partB v.k n.k
theorem law_looks_ok (h : SmV v) (n : Sn) (hn : SmV n.V) (hs : c__law_seen [x.d] = .ok n.V.D) : c__law_looks [x.d, v.D] = .ok (.bl (fitB v n)) := by
  have a := part_law v.s n.s h.s (hn.s _ rfl)
  have b := part_law v.r n.r h.r (hn.r _ rfl)
  have c := part_law v.t n.t h.t (hn.t _ rfl)
  have d := part_law v.k n.k h.k (hn.k _ rfl)
  have vd : v.D = .tup [oD v.s, oD v.r, oD v.t, oD v.k] := rfl
  have nd : n.V.D = .tup [oD (some n.s), oD (some n.r), oD (some n.t), oD (some n.k)] := rfl
  have q0 : partAt v n 0 = partB v.s n.s := rfl
  have q1 : partAt v n 1 = partB v.r n.r := rfl
  have q2 : partAt v n 2 = partB v.t n.t := rfl
  have q3 : partAt v n 3 = partB v.k n.k := rfl
  obtain ⟨ρ', e, z, rfl⟩ := lcL_filter (enc := D.int) (out := D.int) (tb := fun i => !partAt v n i) (set := gN 3) (t := (fAnd (fBl (fOp notN (fOp ixD (fVar 1) (fVar 3)) (fC .non))) (fBl (fOp neD (fOp ixD (fVar 1) (fVar 3)) (fOp ixD (fVar 2) (fVar 3)))))) (f := fVar 3) (vs := [3]) (fun ρ => ∃ z, ρ = [some x.d, some v.D, some n.V.D, z]) [0, 1, 2, 3] (by
    rintro i hi ρ ⟨z, rfl⟩
    refine ⟨[some x.d, some v.D, some n.V.D, some (.int i)], by simp, ?_, fun _ => by simp, _, rfl⟩
    rw [vd, nd]
    have hi : i = 0 ∨ i = 1 ∨ i = 2 ∨ i = 3 := by simpa using hi
    rcases hi with rfl | rfl | rfl | rfl
    · rw [q0]
      rcases a with ⟨a1, a2⟩ | ⟨a1, a2⟩ <;> simp [-notN, -neD, a1, a2]
    · rw [q1]
      rcases b with ⟨a1, a2⟩ | ⟨a1, a2⟩ <;> simp [-notN, -neD, a1, a2]
    · rw [q2]
      rcases c with ⟨a1, a2⟩ | ⟨a1, a2⟩ <;> simp [-notN, -neD, a1, a2]
    · rw [q3]
      rcases d with ⟨a1, a2⟩ | ⟨a1, a2⟩ <;> simp [-notN, -neD, a1, a2]) [] [some x.d, some v.D, some n.V.D, none] ⟨none, rfl⟩ (by decide)
  rw [List.nil_append] at e
  have eq0 : ∀ xs : List D, eqX (.lst xs) (.lst []) = some (.bl xs.isEmpty) := by
    intro xs
    cases xs with
    | nil => rfl
    | cons d r => simp [eqX]
  have fin : ((([0, 1, 2, 3] : List Int).filter fun i => !partAt v n i).map D.int).isEmpty = fitB v n := by
    have : ∀ (p : Int → Bool) (is : List Int), ((is.filter p).map D.int).isEmpty = is.all fun i => !p i := by
      intro p is
      rw [← isEmpty_filter]
      cases is.filter p <;> rfl
    rw [this]
    simp only [Bool.not_not]
    show (partAt v n 0 && (partAt v n 1 && (partAt v n 2 && (partAt v n 3 && true)))) = _
    rw [Bool.and_true]
    rfl
  have ee := eq0 ((([0, 1, 2, 3] : List Int).filter fun i => !partAt v n i).map D.int)
  rw [fin] at ee
  have r : rng1D [.int 4] = some (([0, 1, 2, 3] : List Int).map D.int) := rfl
  generalize (([0, 1, 2, 3] : List Int).filter fun i => !partAt v n i).map D.int = fs at *
  generalize ([0, 1, 2, 3] : List Int).map D.int = rs at *
  generalize x.d = xd at *
  generalize v.D = vd2 at *
  generalize n.V.D = nd2 at *
  refine (def_at (o := .rt (.bl (fitB v n)) [some xd, some vd2, some nd2, none]) rfl ?_).trans rfl
  simp [-lcL, -rng1D, -eqX, den__law_looks, hs, r, e, ee]
end
end K45


set_option maxHeartbeats 1000000
namespace K45
open DL PySem L2 PG LB L21
section
variable {l : Lk} {x y : Co} {v : Vw}
/-! drawn views -/
theorem counts_drawn {m most : Int} {g : D} (hg : GenOk m g) (hm : m < 100000000000) (h0 : 0 ≤ most) (h1 : most < 1000000000000000000000000000000) : ∃ (a b : Int) (g' : D), c__law_counts [g, .int most] = .ok (.tup [.int a, .int b]) g' ∧ (0 ≤ a ∧ 0 ≤ b ∧ a + b ≤ most) ∧ GenOk (m + 12) g' := by
  obtain ⟨a, g1, e1, a1, a2, hg1⟩ := random_ok (bd := most + 1) hg (by omega) (by omega) (by omega)
  obtain ⟨b, g2, e2, b1, b2, hg2⟩ := random_ok (bd := most + 1 - a) hg1 (by omega) (by omega) (by omega)
  refine ⟨a, b, g2, ?_, ⟨a1, b1, by omega⟩, hg2.mono (by omega)⟩
  simp [c__law_counts, den__law_counts, p__law_counts_0, p__law_counts_1, e1, e2]
theorem okP_if {q : Int} (c : Prop) [Decidable c] {o : Option (Int × Int)} (h : okP q o) : okP q (if c then o else none) := by
  split
  · exact h
  · exact trivial
theorem okT_if {q : Int} (c : Prop) [Decidable c] {o : Option (Int × Int)} (h : okT q o) : okT q (if c then o else none) := by
  split
  · exact h
  · exact trivial
theorem look_drawn {m : Int} {g : D} (lo : l.Ok) (ls : l.Small) (hg : GenOk m g) (hm : m < 10000000000) : ∃ (v : Vw) (g' : D), c__law_look [g, l.D] = .ok v.D g' ∧ v.Ok l ∧ GenOk (m + 100) g' := by
  have l1 := ls.c; have l2 := ls.d; have l3 := ls.p; have l4 := ls.q
  have k1 := lo.c; have k2 := lo.d; have k3 := lo.p; have k4 := lo.q
  obtain ⟨a, g1, e1, a1, a2, hg1⟩ := random_ok (bd := 2) hg (by omega) (by decide) (by decide)
  obtain ⟨b, g2, e2, b1, b2, hg2⟩ := random_ok (bd := l.q) hg1 (by omega) (by omega) (by omega)
  obtain ⟨c, g3, e3, c1, c2, hg3⟩ := random_ok (bd := 2) hg2 (by omega) (by decide) (by decide)
  obtain ⟨d, g4, e4, d1, d2, hg4⟩ := random_ok (bd := l.p) hg3 (by omega) (by omega) (by omega)
  obtain ⟨t1, t2, g5, e5, ht, hg5⟩ := counts_drawn (most := l.c) hg4 (by omega) (by omega) (by omega)
  obtain ⟨u1, u2, g6, e6, hu, hg6⟩ := counts_drawn (most := l.d) hg5 (by omega) (by omega) (by omega)
  obtain ⟨r0, g7, e7, x1, x2, hg7⟩ := random_ok (bd := 3) hg6 (by omega) (by decide) (by decide)
  obtain ⟨r1, g8, e8, y1, y2, hg8⟩ := random_ok (bd := 3) hg7 (by omega) (by decide) (by decide)
  obtain ⟨r2, g9, e9, z1, z2, hg9⟩ := random_ok (bd := 3) hg8 (by omega) (by decide) (by decide)
  obtain ⟨r3, g10, e10, w1, w2, hg10⟩ := random_ok (bd := 3) hg9 (by omega) (by decide) (by decide)
  refine ⟨⟨if 0 < r0 then some (a, b) else none, if 0 < r1 then some (c, d) else none, if 0 < r2 then some (t1, t2) else none, if 0 < r3 then some (u1, u2) else none⟩, g10, ?_, ⟨okP_if _ (show okP l.q (some (a, b)) from ⟨⟨a1, a2⟩, b1, b2⟩), okP_if _ (show okP l.p (some (c, d)) from ⟨⟨c1, c2⟩, d1, d2⟩), okT_if _ (show okT l.c (some (t1, t2)) from ht), okT_if _ (show okT l.d (some (u1, u2)) from hu)⟩, hg10.mono (by omega)⟩
  have q0 : p__law_look_0 (startD N__law_look [g, l.D]) = .nx [some g, some l.D, some (.int l.c), some (.int l.d), some (.int l.p), some (.int l.q), none, none] := by
    simp [p__law_look_0, Lk.D]
  have q1 : p__law_look_1 [some g, some l.D, some (.int l.c), some (.int l.d), some (.int l.p), some (.int l.q), none, none] = .nx [some g4, some l.D, some (.int l.c), some (.int l.d), some (.int l.p), some (.int l.q), some (.lst [.tup [.int a, .int b], .tup [.int c, .int d]]), none] := by
    simp [p__law_look_1, e1, e2, e3, e4]
  have q2 : p__law_look_2 [some g4, some l.D, some (.int l.c), some (.int l.d), some (.int l.p), some (.int l.q), some (.lst [.tup [.int a, .int b], .tup [.int c, .int d]]), none] = .nx [some g6, some l.D, some (.int l.c), some (.int l.d), some (.int l.p), some (.int l.q), some (.lst [.tup [.int a, .int b], .tup [.int c, .int d], .tup [.int t1, .int t2], .tup [.int u1, .int u2]]), none] := by
    simp [p__law_look_2, e5, e6]
  have q3 : p__law_look_3 [some g6, some l.D, some (.int l.c), some (.int l.d), some (.int l.p), some (.int l.q), some (.lst [.tup [.int a, .int b], .tup [.int c, .int d], .tup [.int t1, .int t2], .tup [.int u1, .int u2]]), none] = .rt (Vw.D ⟨if 0 < r0 then some (a, b) else none, if 0 < r1 then some (c, d) else none, if 0 < r2 then some (t1, t2) else none, if 0 < r3 then some (u1, u2) else none⟩) [some g10, some l.D, some (.int l.c), some (.int l.d), some (.int l.p), some (.int l.q), some (.lst [.tup [.int a, .int b], .tup [.int c, .int d], .tup [.int t1, .int t2], .tup [.int u1, .int u2]]), none] := by
    by_cases h0 : 0 < r0 <;> by_cases h1 : 0 < r1 <;> by_cases h2 : 0 < r2 <;> by_cases h3 : 0 < r3 <;> simp [p__law_look_3, e7, e8, e9, e10, h0, h1, h2, h3, Vw.D, oD]
  exact (gen_at rfl ((seq_nx q0).trans ((seq_nx q1).trans ((seq_nx q2).trans q3)))).trans rfl
/-! shown -/
theorem okPl {v : D} (h : Pl v) (n : Nat) : okN (n + 2) v = true := h.both.1 n
theorem okVw (ls : l.Small) (h : v.Ok l) (n : Nat) : okN (n + 3) v.D = true := by
  have lo := Vw.lo ls h
  show okNs (n + 2) [oD v.s, oD v.r, oD v.t, oD v.k] = true
  simp only [okNs, okPl lo.a, okPl lo.b, okPl lo.c, okPl lo.d, Bool.and_self]
theorem wVw (ls : l.Small) (h : v.Ok l) : wD v.D ≤ 41000 := by
  have lo := Vw.lo ls h
  have := lo.a.both.2.2; have := lo.b.both.2.2; have := lo.c.both.2.2; have := lo.d.both.2.2
  show wD (.tup [oD v.s, oD v.r, oD v.t, oD v.k]) ≤ 41000
  simp only [wD, wDs]
  omega
theorem rep_two (ls : l.Small) (h : v.Ok l) : ∃ S, reprE [.lst [v.D, v.D]] = some (.str S) := by
  have o := okVw ls h 56
  have w := wVw ls h
  refine rep_N ?_ ?_
  · show okNs 59 [v.D, v.D] = true
    simp only [okNs, o, Bool.and_self]
  · simp only [wD, wDs]; omega
theorem rep_bb (b : Bool) : reprE [.lst [.bl b, .bl b]] = some (.str (pyD (.lst [.bl b, .bl b])).shown) := by cases b <;> rfl
theorem rep_b (b : Bool) : reprE [.bl b] = some (.str (pyD (.bl b)).shown) := by cases b <;> rfl
theorem neS (s : Str) : neD (.str s) (.str s) = some (.bl false) := by simp
theorem rep_three (lo : l.Ok) (ls : l.Small) (h : x.Ok l) (hv : v.Ok l) : ∃ S, reprE [.lst [l.D, x.d, v.D]] = some (.str S) := by
  have o1 := okL (n := 58) lo ls
  have o2 := okC (n := 56) ls h
  have o3 := okVw ls hv 56
  have w1 := wL l; have w2 := wC x; have w3 := wVw ls hv
  refine rep_N ?_ ?_
  · show okNs 59 [l.D, x.d, v.D] = true
    simp only [okNs, o1, o2, o3, Bool.and_self]
  · simp only [wD, wDs]; omega
/-! the law's right -/
abbrev rE (g : D) (l : Lk) (x : Co) (v : Vw) (kept : D) (rest : List (Option D)) : DL.Env := some g :: some l.D :: some x.d :: some v.D :: some kept :: rest
theorem odd_turn' (lo : l.Ok) (g kept : D) (y6 y7 y8 y9 y10 y11 y12 y13 : Option D) (w : D) (hj : Jv l w) : ∃ z6 z7, b__law_right_6 (rE g l x v kept [some w, y6, y7, y8, y9, y10, y11, y12, y13]) = .nx (rE g l x v kept [some w, z6, z7, y8, y9, y10, y11, y12, y13]) := by
  obtain ⟨b, S, e1, e2, e3⟩ := hj
  have e4 := is_view_any lo e1
  have e5 := rep_b b
  refine ⟨some (.str S), some (.bl b), ?_⟩
  generalize (pyD (.bl b)).shown = bs at *
  generalize hx : x.d = xd at *
  simp [-reprE, b__law_right_6, p__law_right_4, p__law_right_5, e2, e3, e4, e5]
theorem odd_loop' (lo : l.Ok) (g kept : D) (y8 y9 y10 y11 y12 y13 : Option D) : ∀ (ws : List D) (y5 y6 y7 : Option D), (∀ w, w ∈ ws → Jv l w) →
    ∃ z5 z6 z7, forL (gN 5) b__law_right_6 ws (rE g l x v kept [y5, y6, y7, y8, y9, y10, y11, y12, y13]) = .nx (rE g l x v kept [z5, z6, z7, y8, y9, y10, y11, y12, y13])
  | [], y5, y6, y7, _ => ⟨y5, y6, y7, rfl⟩
  | w :: ws, y5, y6, y7, hj => by
    obtain ⟨z6, z7, e1⟩ := odd_turn' (x := x) (v := v) lo g kept y6 y7 y8 y9 y10 y11 y12 y13 w (hj w List.mem_cons_self)
    obtain ⟨a, b, c, e2⟩ := odd_loop' lo g kept y8 y9 y10 y11 y12 y13 ws (some w) z6 z7 (fun u hu => hj u (List.mem_cons_of_mem _ hu))
    exact ⟨a, b, c, (for_cons rfl e1).trans e2⟩
theorem look_turn (lo : l.Ok) (ls : l.Small) (h : x.Ok l) (g kept : D) (u : Vw) (w : Vw) (hw : w.Ok l) (y5 y6 y7 y8 y9 y10 y12 y13 : Option D) : b__law_right_14 (rE g l x u kept [y5, y6, y7, y8, y9, y10, some w.D, y12, y13]) = .nx (rE g l x u kept [y5, y6, y7, y8, y9, y10, some w.D, y12, y13]) := by
  have e1 := looks_so_ok lo ls h hw
  have e2 := law_looks_ok (x := x) (hw.sm ls) (seenN x) ((seenV_ok lo h).sm ls) law_seen_ok
  have e3 := rep_bb (fitB w (seenN x))
  generalize fitB w (seenN x) = b at *
  generalize (pyD (.lst [.bl b, .bl b])).shown = bs at *
  simp [-reprE, b__law_right_14, p__law_right_13, e1, e2, e3]
theorem view_turn (lo : l.Ok) (ls : l.Small) (h : x.Ok l) (g kept : D) (u : Vw) (c0 c1 c2 c3 : Bool) (w : Vw) (hw : w.Ok l) (y6 y7 y8 y10 y11 y12 y13 : Option D) : ∃ z6 z7 z11, b__law_right_16 (rE g l x u kept [some w.D, y6, y7, y8, some (.lst (plD c0 c1 c2 c3)), y10, y11, y12, y13]) = .nx (rE g l x u kept [some w.D, z6, z7, y8, some (.lst (plD c0 c1 c2 c3)), y10, z11, y12, y13]) := by
  have hc := covV_ok hw c0 c1 c2 c3
  have e1 := covered_ok lo ls hw c0 c1 c2 c3
  obtain ⟨S, hS⟩ := pl_rep c0 c1 c2 c3
  obtain ⟨i0, i1, i2, i3⟩ := pl_in c0 c1 c2 c3
  obtain ⟨T, hT⟩ := rep_two ls hc
  have cd : (covV w c0 c1 c2 c3).D = .tup [if c0 = true then .non else oD w.s, if c1 = true then .non else oD w.r, if c2 = true then .non else oD w.t, if c3 = true then .non else oD w.k] := by
    unfold covV Vw.D
    simp only [oD_if]
  have wd : w.D = .tup [oD w.s, oD w.r, oD w.t, oD w.k] := rfl
  have q1 : p__law_right_11 (rE g l x u kept [some w.D, y6, y7, y8, some (.lst (plD c0 c1 c2 c3)), y10, y11, y12, y13]) = .nx (rE g l x u kept [some w.D, some (.str S), some (covV w c0 c1 c2 c3).D, y8, some (.lst (plD c0 c1 c2 c3)), y10, y11, y12, y13]) := by
    rw [cd, wd]
    generalize plD c0 c1 c2 c3 = ps at *
    generalize oD w.s = pa at *
    generalize oD w.r = pb at *
    generalize oD w.t = pc at *
    generalize oD w.k = pd at *
    cases c0 <;> cases c1 <;> cases c2 <;> cases c3 <;> simp [-inA, -reprE, -rng1D, rg4, p__law_right_11, hS, i0, i1, i2, i3]
  have q2 : p__law_right_12 (rE g l x u kept [some w.D, some (.str S), some (covV w c0 c1 c2 c3).D, y8, some (.lst (plD c0 c1 c2 c3)), y10, y11, y12, y13]) = .nx (rE g l x u kept [some w.D, some (.str S), some (covV w c0 c1 c2 c3).D, y8, some (.lst (plD c0 c1 c2 c3)), y10, y11, y12, y13]) := by
    generalize plD c0 c1 c2 c3 = ps at *
    generalize (covV w c0 c1 c2 c3).D = cv at *
    generalize w.D = wv at *
    simp [-reprE, p__law_right_12, e1, hS, hT]
  have t1 := look_turn lo ls h g kept u w hw (some w.D) (some (.str S)) (some (covV w c0 c1 c2 c3).D) y8 (some (.lst (plD c0 c1 c2 c3))) y10 y12 y13
  have t2 := look_turn lo ls h g kept u (covV w c0 c1 c2 c3) hc (some w.D) (some (.str S)) (some (covV w c0 c1 c2 c3).D) y8 (some (.lst (plD c0 c1 c2 c3))) y10 y12 y13
  have q3 : p__law_right_15 (rE g l x u kept [some w.D, some (.str S), some (covV w c0 c1 c2 c3).D, y8, some (.lst (plD c0 c1 c2 c3)), y10, y11, y12, y13]) = .nx (rE g l x u kept [some w.D, some (.str S), some (covV w c0 c1 c2 c3).D, y8, some (.lst (plD c0 c1 c2 c3)), y10, some (covV w c0 c1 c2 c3).D, y12, y13]) := by
    generalize plD c0 c1 c2 c3 = ps at *
    generalize (covV w c0 c1 c2 c3).D = cv at *
    generalize w.D = wv at *
    refine for_at (ρ1 := rE g l x u kept [some wv, some (.str S), some cv, y8, some (.lst ps), y10, y11, y12, y13]) (ds := [wv, cv]) (by simp) ?_
    exact (for_cons rfl t1).trans ((for_cons rfl t2).trans rfl)
  exact ⟨_, _, _, (seq_nx q1).trans ((seq_nx q2).trans q3)⟩
end
end K45


set_option maxHeartbeats 1000000
namespace K45
open DL PySem L2 PG LB L21
section
variable {l : Lk} {x y : Co} {v : Vw}
theorem link_drawn {m : Int} {g : D} (hg : GenOk m g) (hm : m < 10000000) : ∃ (l : Lk) (g' : D), (sCons (sSet 1 (fCallG 0 c__law_link (aCons (fC (.int 3)) aNil))) p__law_right_1) (startD N__law_right [g]) = .nx [some g', some l.D, none, none, none, none, none, none, none, none, none, none, none, none] ∧ l.Ok ∧ l.Small ∧ GenOk (m + 100) g' := by
  obtain ⟨l, g1, e1, lo, ls, hg1⟩ := link_ok (most := 3) hg (by omega) (by decide) (by decide)
  obtain ⟨r, g2, e2, r1, r2, hg2⟩ := random_ok (bd := 3) hg1 (by omega) (by decide) (by decide)
  have q1 : (sSet 1 (fCallG 0 c__law_link (aCons (fC (.int 3)) aNil))) (startD N__law_right [g]) = .nx [some g1, some l.D, none, none, none, none, none, none, none, none, none, none, none, none] := by
    simp [e1]
  by_cases hr : r = 0
  · subst hr
    obtain ⟨a, g3, e3, a1, a2, hg3⟩ := random_ok (bd := 100000000000000000000000000000) hg2 (by omega) (by decide) (by decide)
    obtain ⟨b, g4, e4, b1, b2, hg4⟩ := random_ok (bd := 100000000000000000000000000000) hg3 (by omega) (by decide) (by decide)
    obtain ⟨c, g5, e5, c1, c2, hg5⟩ := random_ok (bd := 100000000000000000000000000000) hg4 (by omega) (by decide) (by decide)
    obtain ⟨d, g6, e6, d1, d2, hg6⟩ := random_ok (bd := 100000000000000000000000000000) hg5 (by omega) (by decide) (by decide)
    have p29 : powD (.int 10) (.int 29) = some (.int 100000000000000000000000000000) := rfl
    refine ⟨⟨1 + a, 1 + b, 1 + c, 1 + d⟩, g6, (seq_nx q1).trans ?_, ⟨by show 0 < 1 + a; omega, by show 0 < 1 + b; omega, by show 0 < 1 + c; omega, by show 0 < 1 + d; omega⟩, ⟨by show 1 + a ≤ _; omega, by show 1 + b ≤ _; omega, by show 1 + c ≤ _; omega, by show 1 + d ≤ _; omega⟩, hg6.mono (by omega)⟩
    generalize l.D = ld at *
    simp [-powD, -rng1D, rg4, p__law_right_1, p__law_right_0, e2, e3, e4, e5, e6, p29, Lk.D]
  · have hr' : (r == 0) = false := beq_eq_false_iff_ne.mpr hr
    refine ⟨l, g2, (seq_nx q1).trans ?_, lo, ls, hg2.mono (by omega)⟩
    generalize l.D = ld at *
    simp [p__law_right_1, e2, hr']
theorem okP_if' {q : Int} (c : Bool) {o u : Option (Int × Int)} (h : okP q o) (h2 : okP q u) : okP q (if c = true then o else u) := by
  cases c
  · exact h2
  · exact h
theorem okT_if' {q : Int} (c : Bool) {o u : Option (Int × Int)} (h : okT q o) (h2 : okT q u) : okT q (if c = true then o else u) := by
  cases c
  · exact h2
  · exact h
theorem oD_if2 (c : Bool) (o u : Option (Int × Int)) : oD (if c = true then o else u) = if c = true then oD o else oD u := by cases c <;> rfl
def noneV : Vw := ⟨none, none, none, none⟩
theorem right_ok {m : Int} {g : D} (hg : GenOk m g) (hm : m < 1000000) : ∃ g', c__law_right [g] = .ok (.bl true) g' := by
  obtain ⟨l, g1, e1, lo, ls, hg1⟩ := link_drawn hg (by omega)
  obtain ⟨x, g2, e2, h, hg2⟩ := contents_ok lo ls hg1 (by omega)
  obtain ⟨v, g3, e3, hv, hg3⟩ := look_drawn lo ls hg2 (by omega)
  obtain ⟨K, hK⟩ := rep_three lo ls h hv
  have q2 : p__law_right_2 [some g1, some l.D, none, none, none, none, none, none, none, none, none, none, none, none] = .nx [some g3, some l.D, some x.d, some v.D, none, none, none, none, none, none, none, none, none, none] := by
    generalize v.D = vd at *
    generalize x.d = xd at *
    simp [p__law_right_2, e2, e3]
  have q3 : p__law_right_3 [some g3, some l.D, some x.d, some v.D, none, none, none, none, none, none, none, none, none, none] = .nx (rE g3 l x v (.str K) [none, none, none, none, none, none, none, none, none]) := by
    show _ = Out.nx [some g3, some l.D, some x.d, some v.D, some (.str K), none, none, none, none, none, none, none, none, none]
    generalize v.D = vd at *
    generalize x.d = xd at *
    simp [-reprE, p__law_right_3, hK]
  obtain ⟨g4, ws, e4, hj, hg4⟩ := odd_ok lo ls hg3 (by omega) (Vw.lo ls hv)
  have e4 : c__law_odd [g3, l.D, v.D] = .ok (.lst ws) g4 := e4
  obtain ⟨z5, z6, z7, e5⟩ := odd_loop' (x := x) (v := v) lo g4 (.str K) none none none none none none ws none none none hj
  have q7 : p__law_right_7 (rE g3 l x v (.str K) [none, none, none, none, none, none, none, none, none]) = .nx (rE g4 l x v (.str K) [z5, z6, z7, none, none, none, none, none, none]) := by
    refine for_at (ρ1 := rE g4 l x v (.str K) [none, none, none, none, none, none, none, none, none]) (ds := ws) ?_ e5
    generalize hvd : v.D = vd at *
    simp [hvd, e4]
  obtain ⟨r0, g5, f0, x1, x2, hg5⟩ := random_ok (bd := 2) hg4 (by omega) (by decide) (by decide)
  obtain ⟨r1, g6, f1, y1, y2, hg6⟩ := random_ok (bd := 2) hg5 (by omega) (by decide) (by decide)
  obtain ⟨r2, g7, f2, z1, z2, hg7⟩ := random_ok (bd := 2) hg6 (by omega) (by decide) (by decide)
  obtain ⟨r3, g8, f3, w1, w2, hg8⟩ := random_ok (bd := 2) hg7 (by omega) (by decide) (by decide)
  have ls1 := law_seen_ok (x := x)
  have q8 : p__law_right_8 (rE g4 l x v (.str K) [z5, z6, z7, none, none, none, none, none, none]) = .nx (rE g8 l x v (.str K) [z5, z6, z7, some (seenV x).D, some (.lst (plD (r0 == 0) (r1 == 0) (r2 == 0) (r3 == 0))), none, none, none, none]) := by
    generalize (seenV x).D = sd at *
    cases h0 : (r0 == 0) <;> cases h1 : (r1 == 0) <;> cases h2 : (r2 == 0) <;> cases h3 : (r3 == 0) <;> simp [-rng1D, rg4, p__law_right_8, ls1, f0, f1, f2, f3, h0, h1, h2, h3, plD]
  have hs := seenV_ok lo h
  have vo := view_of_ok lo h
  have iv := is_view_any lo (is_view_of_ok ls hs)
  obtain ⟨T, hT⟩ := rep_two ls hs
  have q9 : p__law_right_9 (rE g8 l x v (.str K) [z5, z6, z7, some (seenV x).D, some (.lst (plD (r0 == 0) (r1 == 0) (r2 == 0) (r3 == 0))), none, none, none, none]) = .nx (rE g8 l x v (.str K) [z5, z6, z7, some (seenV x).D, some (.lst (plD (r0 == 0) (r1 == 0) (r2 == 0) (r3 == 0))), none, none, none, none]) := by
    generalize (seenV x).D = sd at *
    generalize plD (r0 == 0) (r1 == 0) (r2 == 0) (r3 == 0) = ps at *
    simp [-reprE, p__law_right_9, vo, iv, hT]
  obtain ⟨s0, ga, j0, a1, a2, hga⟩ := random_ok (bd := 2) hg8 (by omega) (by decide) (by decide)
  obtain ⟨s1, gb, j1, b1, b2, hgb⟩ := random_ok (bd := 2) hga (by omega) (by decide) (by decide)
  obtain ⟨s2, gc, j2, c1, c2, hgc⟩ := random_ok (bd := 2) hgb (by omega) (by decide) (by decide)
  obtain ⟨s3, gd, j3, d1, d2, hgd⟩ := random_ok (bd := 2) hgc (by omega) (by decide) (by decide)
  obtain ⟨mx, hmx, mxd⟩ : ∃ mx : Vw, mx.Ok l ∧ mx.D = .tup [if (s0 == 0) = true then oD (seenV x).s else oD v.s, if (s1 == 0) = true then oD (seenV x).r else oD v.r, if (s2 == 0) = true then oD (seenV x).t else oD v.t, if (s3 == 0) = true then oD (seenV x).k else oD v.k] := by
    refine ⟨⟨if (s0 == 0) = true then (seenV x).s else v.s, if (s1 == 0) = true then (seenV x).r else v.r, if (s2 == 0) = true then (seenV x).t else v.t, if (s3 == 0) = true then (seenV x).k else v.k⟩, ⟨okP_if' _ hs.s hv.s, okP_if' _ hs.r hv.r, okT_if' _ hs.t hv.t, okT_if' _ hs.k hv.k⟩, ?_⟩
    unfold Vw.D
    simp only [oD_if2]
  have sd : (seenV x).D = .tup [oD (seenV x).s, oD (seenV x).r, oD (seenV x).t, oD (seenV x).k] := rfl
  have vd : v.D = .tup [oD v.s, oD v.r, oD v.t, oD v.k] := rfl
  have q10 : p__law_right_10 (rE g8 l x v (.str K) [z5, z6, z7, some (seenV x).D, some (.lst (plD (r0 == 0) (r1 == 0) (r2 == 0) (r3 == 0))), none, none, none, none]) = .nx (rE gd l x v (.str K) [z5, z6, z7, some (seenV x).D, some (.lst (plD (r0 == 0) (r1 == 0) (r2 == 0) (r3 == 0))), some mx.D, none, none, none]) := by
    rw [mxd]
    show p__law_right_10 [some g8, some l.D, some x.d, some v.D, some (.str K), z5, z6, z7, some (seenV x).D, some (.lst (plD (r0 == 0) (r1 == 0) (r2 == 0) (r3 == 0))), none, none, none, none] = .nx [some gd, some l.D, some x.d, some v.D, some (.str K), z5, z6, z7, some (seenV x).D, some (.lst (plD (r0 == 0) (r1 == 0) (r2 == 0) (r3 == 0))), _, none, none, none]
    rw [sd, vd]
    generalize plD (r0 == 0) (r1 == 0) (r2 == 0) (r3 == 0) = ps at *
    generalize oD (seenV x).s = n0 at *
    generalize oD (seenV x).r = n1 at *
    generalize oD (seenV x).t = n2 at *
    generalize oD (seenV x).k = n3 at *
    generalize oD v.s = m0 at *
    generalize oD v.r = m1 at *
    generalize oD v.t = m2 at *
    generalize oD v.k = m3 at *
    cases h0 : (s0 == 0) <;> cases h1 : (s1 == 0) <;> cases h2 : (s2 == 0) <;> cases h3 : (s3 == 0) <;> simp [-rng1D, rg4, p__law_right_10, j0, j1, j2, j3, h0, h1, h2, h3]
  have hn : noneV.Ok l := ⟨trivial, trivial, trivial, trivial⟩
  obtain ⟨a6, a7, a11, t1⟩ := view_turn lo ls h gd (.str K) v (r0 == 0) (r1 == 0) (r2 == 0) (r3 == 0) v hv z6 z7 (some (seenV x).D) (some mx.D) none none none
  obtain ⟨b6, b7, b11, t2⟩ := view_turn lo ls h gd (.str K) v (r0 == 0) (r1 == 0) (r2 == 0) (r3 == 0) (seenV x) hs a6 a7 (some (seenV x).D) (some mx.D) a11 none none
  obtain ⟨c6, c7, c11, t3⟩ := view_turn lo ls h gd (.str K) v (r0 == 0) (r1 == 0) (r2 == 0) (r3 == 0) mx hmx b6 b7 (some (seenV x).D) (some mx.D) b11 none none
  obtain ⟨d6, d7, d11, t4⟩ := view_turn lo ls h gd (.str K) v (r0 == 0) (r1 == 0) (r2 == 0) (r3 == 0) noneV hn c6 c7 (some (seenV x).D) (some mx.D) c11 none none
  have q17 : p__law_right_17 (rE gd l x v (.str K) [z5, z6, z7, some (seenV x).D, some (.lst (plD (r0 == 0) (r1 == 0) (r2 == 0) (r3 == 0))), some mx.D, none, none, none]) = .nx (rE gd l x v (.str K) [some noneV.D, d6, d7, some (seenV x).D, some (.lst (plD (r0 == 0) (r1 == 0) (r2 == 0) (r3 == 0))), some mx.D, d11, none, none]) := by
    generalize plD (r0 == 0) (r1 == 0) (r2 == 0) (r3 == 0) = ps at *
    refine for_at (ρ1 := rE gd l x v (.str K) [z5, z6, z7, some (seenV x).D, some (.lst ps), some mx.D, none, none, none]) (ds := [v.D, (seenV x).D, mx.D, noneV.D]) ?_ ?_
    · have nd : noneV.D = .tup [.non, .non, .non, .non] := rfl
      rw [nd]
      generalize (seenV x).D = s at *
      generalize mx.D = mm at *
      simp
    · exact (for_cons rfl t1).trans ((for_cons rfl t2).trans ((for_cons rfl t3).trans ((for_cons rfl t4).trans rfl)))
  have q18 : p__law_right_18 (rE gd l x v (.str K) [some noneV.D, d6, d7, some (seenV x).D, some (.lst (plD (r0 == 0) (r1 == 0) (r2 == 0) (r3 == 0))), some mx.D, d11, none, none]) = .rt (.bl true) (rE gd l x v (.str K) [some noneV.D, d6, d7, some (seenV x).D, some (.lst (plD (r0 == 0) (r1 == 0) (r2 == 0) (r3 == 0))), some mx.D, d11, none, none]) := by
    generalize plD (r0 == 0) (r1 == 0) (r2 == 0) (r3 == 0) = ps at *
    generalize (seenV x).D = s at *
    generalize mx.D = mm at *
    generalize noneV.D = nn at *
    simp [-reprE, p__law_right_18, hK]
  have e1' : den__law_right (startD N__law_right [g]) = sCons p__law_right_2 (sCons p__law_right_3 (sCons p__law_right_7 (sCons p__law_right_8 (sCons p__law_right_9 (sCons p__law_right_10 (sCons p__law_right_17 p__law_right_18)))))) [some g1, some l.D, none, none, none, none, none, none, none, none, none, none, none, none] := by
    unfold den__law_right
    have a3 : ∀ (f1 f2 f3 : DL.Env → Out) (ρ : DL.Env), sCons f1 (sCons f2 f3) ρ = sCons (sCons f1 f2) f3 ρ := by
      intro f1 f2 f3 ρ
      simp only [sCons, oSeq]
      cases f1 ρ <;> rfl
    rw [a3]
    exact seq_nx e1
  exact ⟨gd, (gen_at rfl (e1'.trans ((seq_nx q2).trans ((seq_nx q3).trans ((seq_nx q7).trans ((seq_nx q8).trans ((seq_nx q9).trans ((seq_nx q10).trans ((seq_nx q17).trans q18))))))))).trans rfl⟩
end
abbrev lawE (ns : List Int) (rest : List (Option D)) : DL.Env := some (.scr (ns.map D.int)) :: rest
theorem turn_law (ns : List Int) (i : Int) (hi : 0 ≤ i ∧ i ≤ 20) : b_law_1 (lawE ns [some (.int i), none, none]) = .nx (lawE ns [some (.int i), none, none]) := by
  obtain ⟨g, e1, hg⟩ := generator_ok ns i hi.1 hi.2
  obtain ⟨g', e2⟩ := right_ok hg (by decide)
  simp [b_law_1, p_law_0, e1, e2]
theorem loop_law (ns : List Int) : p_law_2 (startD N_law [.scr (ns.map D.int)]) = .nx (lawE ns [some (.int 2), none, none]) := by
  refine for_at (ρ1 := lawE ns [none, none, none]) (ds := [.int 0, .int 1, .int 2]) (by simp [-rng1D, rg3]) ?_
  exact (for_cons rfl (turn_law ns 0 (by decide))).trans ((for_cons rfl (turn_law ns 1 (by decide))).trans ((for_cons rfl (turn_law ns 2 (by decide))).trans rfl))
def la : Lk := ⟨2, 2, 2, 2⟩
def xa : Co := ⟨0, 1, 1, .old 1, false, 1, 0, 0, 1, 0⟩
def va : Vw := ⟨none, some (1, 1), none, some (1, 0)⟩
theorem rest_law (s : D) (y1 : Option D) : ∃ ρ, (sCons p_law_3 (sCons p_law_4 (sCons p_law_5 p_law_6))) [some s, y1, none, none] = .rt (.bl true) ρ := by
  have lo : la.Ok := ⟨by decide, by decide, by decide, by decide⟩
  have ls : la.Small := ⟨by decide, by decide, by decide, by decide⟩
  have ha : xa.Ok la := ⟨by decide, by decide, by decide, by decide, ⟨by decide, by decide⟩, by decide, by decide, by decide, by decide, by decide, by decide, by decide⟩
  have hs := seenV_ok lo ha
  have hva : va.Ok la := ⟨trivial, ⟨⟨by decide, by decide⟩, by decide, by decide⟩, trivial, ⟨by decide, by decide, by decide⟩⟩
  have a1 := view_of_ok lo ha
  have a2 := covered_ok lo ls hs false true true false
  have a3 := looks_so_ok lo ls ha hva
  have hn : noneV.Ok la := ⟨trivial, trivial, trivial, trivial⟩
  have a4 := is_view_any lo (is_view_of_ok ls hn)
  have p0 : Pl (.tup [.int 0, .int 2]) := .inr ⟨0, 2, rfl, by decide, by decide⟩
  have p1 : Pl (.tup [.int 1, .int 1]) := .inr ⟨1, 1, rfl, by decide, by decide⟩
  have p2 : Pl (.tup [.int 3, .int 0]) := .inr ⟨3, 0, rfl, by decide, by decide⟩
  have pn : Pl .non := .inl rfl
  have a5 := is_view_any lo (prog_view (l := la) p0.pt pn.pt pn.pt pn.pt)
  have a6 := is_view_any lo (prog_view (l := la) pn.pt p1.pt p2.pt pn.pt)
  rw [show jview la (.tup [.int 0, .int 2]) .non .non .non = false by decide] at a5
  rw [show jview la .non (.tup [.int 1, .int 1]) (.tup [.int 3, .int 0]) .non = false by decide] at a6
  rw [show fitB va (seenN xa) = true by decide] at a3
  have v1 : (seenV xa).D = .tup [.tup [.int 0, .int 1], .tup [.int 1, .int 1], .tup [.int 1, .int 0], .tup [.int 1, .int 0]] := rfl
  have v2 : (covV (seenV xa) false true true false).D = .tup [.tup [.int 0, .int 1], .non, .non, .tup [.int 1, .int 0]] := rfl
  have v3 : va.D = .tup [.non, .tup [.int 1, .int 1], .non, .tup [.int 1, .int 0]] := rfl
  have v4 : noneV.D = .tup [.non, .non, .non, .non] := rfl
  have v5 : plD false true true false = [.int 1, .int 2] := rfl
  rw [v1] at a1
  rw [v1, v2, v5] at a2
  rw [v3] at a3
  rw [v4] at a4
  simp only [Lk.D, Co.d, la, xa, Lot.d] at a1 a2 a3 a4 a5 a6
  obtain ⟨S, hS⟩ : ∃ S, reprE [.lst [.tup [.tup [.int 0, .int 1], .tup [.int 1, .int 1], .tup [.int 1, .int 0], .tup [.int 1, .int 0]], .tup [.tup [.int 0, .int 1], .non, .non, .tup [.int 1, .int 0]], .bl true, .bl true, .bl false, .bl false]] = some (.str S) := ⟨_, rfl⟩
  exact ⟨_, by simp [-reprE, p_law_3, p_law_4, p_law_5, p_law_6, a1, a2, a3, a4, a5, a6, hS]; rfl⟩
theorem law_true (ns : List Int) (h : ns.length ≤ 63) : c_law [.scr (ns.map D.int)] = .ok (.bl true) := by
  obtain ⟨ρ, e2⟩ := rest_law (.scr (ns.map D.int)) (some (.int 2))
  exact (def_at rfl ((seq_nx (loop_law ns)).trans e2)).trans rfl
end K45


namespace K45
open PySem PySem.Spec PyProof.Rows L2 DL
open L21
open LB
open PG
theorem all_of {w : World} {P : Program} {K : PySem.W.Frag} {mg : MG} {fa : Addr} {h : Heap} (KX : K.In h) (hfa : mg "law" = some (.ref fa)) (N__law_hash : Nonempty (TopF K mg "_law_hash" s__law_hash ["_law_seed", "_law_index"])) (N__law_random : Nonempty (TopF K mg "_law_random" s__law_random ["_law_generator_here", "_law_bound"])) (N__law_link : Nonempty (TopF K mg "_law_link" s__law_link ["_law_generator_here", "_law_most"])) (N__law_counts : Nonempty (TopF K mg "_law_counts" s__law_counts ["_law_generator_here", "_law_most"])) (N__law_look : Nonempty (TopF K mg "_law_look" s__law_look ["_law_generator_here", "_law_link_told"])) (N__law_contents : Nonempty (TopF K mg "_law_contents" s__law_contents ["_law_generator_here", "_law_link_told"])) (N__law_odd : Nonempty (TopF K mg "_law_odd" s__law_odd ["_law_generator_here", "_law_link_told", "_law_look_told"])) (N__law_pair : Nonempty (TopF K mg "_law_pair" s__law_pair ["_law_some", "_law_most"])) (N__law_two : Nonempty (TopF K mg "_law_two" s__law_two ["_law_some", "_law_most"])) (N__law_is_view : Nonempty (TopF K mg "_law_is_view" s__law_is_view ["_law_link_told", "_law_some"])) (N_is_tuple_of : Nonempty (TopF K mg "is_tuple_of" s_is_tuple_of ["value", "size"])) (N_is_whole : Nonempty (TopF K mg "is_whole" s_is_whole ["value"])) (N_is_count : Nonempty (TopF K mg "is_count" s_is_count ["value"])) (N_is_link : Nonempty (TopF K mg "is_link" s_is_link ["value"])) (N_need_link : Nonempty (TopF K mg "need_link" s_need_link ["link"])) (N_is_bit : Nonempty (TopF K mg "is_bit" s_is_bit ["value"])) (N_is_sender : Nonempty (TopF K mg "is_sender" s_is_sender ["link", "value"])) (N_is_seen_receiver : Nonempty (TopF K mg "is_seen_receiver" s_is_seen_receiver ["link", "value"])) (N_are_counts : Nonempty (TopF K mg "are_counts" s_are_counts ["value", "size", "most"])) (N_is_view_of : Nonempty (TopF K mg "is_view_of" s_is_view_of ["link", "value"])) (N_is_view : Nonempty (TopF K mg "is_view" s_is_view ["link", "value"])) (N__law_seen : Nonempty (TopF K mg "_law_seen" s__law_seen ["_law_here"])) (N_is_lot : Nonempty (TopF K mg "is_lot" s_is_lot ["link", "unlike", "value"])) (N_is_receiver : Nonempty (TopF K mg "is_receiver" s_is_receiver ["link", "sent", "value"])) (N_fits_link : Nonempty (TopF K mg "fits_link" s_fits_link ["link", "value"])) (N_need_contents : Nonempty (TopF K mg "need_contents" s_need_contents ["link", "contents"])) (N_seen_of : Nonempty (TopF K mg "seen_of" s_seen_of ["contents"])) (N_view_of : Nonempty (TopF K mg "view_of" s_view_of ["link", "contents"])) (N_need_view : Nonempty (TopF K mg "need_view" s_need_view ["link", "view"])) (N_are_places : Nonempty (TopF K mg "are_places" s_are_places ["value"])) (N_covered : Nonempty (TopF K mg "covered" s_covered ["link", "view", "places"])) (N_fits_view : Nonempty (TopF K mg "fits_view" s_fits_view ["contents", "view"])) (N_looks_so : Nonempty (TopF K mg "looks_so" s_looks_so ["link", "contents", "view"])) (N__law_looks : Nonempty (TopF K mg "_law_looks" s__law_looks ["_law_here", "_law_look_told"])) (N__law_right : Nonempty (TopF K mg "_law_right" s__law_right ["_law_generator_here"])) (N__law_cell : Nonempty (TopF K mg "_law_cell" s__law_cell ["_law_script", "_law_index"])) (N__law_generator : Nonempty (TopF K mg "_law_generator" s__law_generator ["_law_script", "_law_index"])) (N_law : Nonempty (TopF K mg "law" s_law ["_law_script"])) (Z : Zs mg) :
    ∃ fd : FuncData, (∀ (s : Shared) (u : Value), BindsTo s fd { pos := [u] } [("_law_script", u)]) ∧ ∀ base : Heap, K.In base → base.Ns mainGlobals mg → FnG P w K mg base 9 fa fd ["_law_script"] (SpP K mg false c_law) := by
  obtain ⟨T__law_hash⟩ := N__law_hash
  obtain ⟨T__law_random⟩ := N__law_random
  obtain ⟨T__law_link⟩ := N__law_link
  obtain ⟨T__law_counts⟩ := N__law_counts
  obtain ⟨T__law_look⟩ := N__law_look
  obtain ⟨T__law_contents⟩ := N__law_contents
  obtain ⟨T__law_odd⟩ := N__law_odd
  obtain ⟨T__law_pair⟩ := N__law_pair
  obtain ⟨T__law_two⟩ := N__law_two
  obtain ⟨T__law_is_view⟩ := N__law_is_view
  obtain ⟨T_is_tuple_of⟩ := N_is_tuple_of
  obtain ⟨T_is_whole⟩ := N_is_whole
  obtain ⟨T_is_count⟩ := N_is_count
  obtain ⟨T_is_link⟩ := N_is_link
  obtain ⟨T_need_link⟩ := N_need_link
  obtain ⟨T_is_bit⟩ := N_is_bit
  obtain ⟨T_is_sender⟩ := N_is_sender
  obtain ⟨T_is_seen_receiver⟩ := N_is_seen_receiver
  obtain ⟨T_are_counts⟩ := N_are_counts
  obtain ⟨T_is_view_of⟩ := N_is_view_of
  obtain ⟨T_is_view⟩ := N_is_view
  obtain ⟨T__law_seen⟩ := N__law_seen
  obtain ⟨T_is_lot⟩ := N_is_lot
  obtain ⟨T_is_receiver⟩ := N_is_receiver
  obtain ⟨T_fits_link⟩ := N_fits_link
  obtain ⟨T_need_contents⟩ := N_need_contents
  obtain ⟨T_seen_of⟩ := N_seen_of
  obtain ⟨T_view_of⟩ := N_view_of
  obtain ⟨T_need_view⟩ := N_need_view
  obtain ⟨T_are_places⟩ := N_are_places
  obtain ⟨T_covered⟩ := N_covered
  obtain ⟨T_fits_view⟩ := N_fits_view
  obtain ⟨T_looks_so⟩ := N_looks_so
  obtain ⟨T__law_looks⟩ := N__law_looks
  obtain ⟨T__law_right⟩ := N__law_right
  obtain ⟨T__law_cell⟩ := N__law_cell
  obtain ⟨T__law_generator⟩ := N__law_generator
  obtain ⟨T_law⟩ := N_law
  have e := T_law.m.symm.trans hfa
  have e2 : T_law.f = fa := Value.ref.inj (Option.some.inj e)
  subst e2
  have kb_covered_2_1_0 : KwBinds K T_covered.d ["link", "view", "places"] ["places", "view", "link"] [2, 1, 0] := kw_of T_covered.F fun _ _ _ _ _ _ ws hl => match ws, hl with | [_, _, _], _ => rfl
  have kb_is_view_1_0 : KwBinds K T_is_view.d ["link", "value"] ["value", "link"] [1, 0] := kw_of T_is_view.F fun _ _ _ _ _ _ ws hl => match ws, hl with | [_, _], _ => rfl
  have kb_looks_so_2_1_0 : KwBinds K T_looks_so.d ["link", "contents", "view"] ["view", "contents", "link"] [2, 1, 0] := kw_of T_looks_so.F fun _ _ _ _ _ _ ws hl => match ws, hl with | [_, _, _], _ => rfl
  have kb_view_of_1_0 : KwBinds K T_view_of.d ["link", "contents"] ["contents", "link"] [1, 0] := kw_of T_view_of.F fun _ _ _ _ _ _ ws hl => match ws, hl with | [_, _], _ => rfl
  exact ⟨T_law.d, fun s u => bt_of (ps := ["_law_script"]) T_law.F (fun _ _ _ _ _ _ us hl => match us, hl with | [_], _ => rfl) s [u] rfl, fun base _ _ => ok_law T__law_hash T__law_random T__law_link T__law_counts T__law_look T__law_contents T__law_odd T__law_pair T__law_two T__law_is_view T_is_tuple_of T_is_whole T_is_count T_is_link T_need_link T_is_bit T_is_sender T_is_seen_receiver T_are_counts T_is_view_of T_is_view T__law_seen T_is_lot T_is_receiver T_fits_link T_need_contents T_seen_of T_view_of T_need_view T_are_places T_covered T_fits_view T_looks_so T__law_looks T__law_right T__law_cell T__law_generator T_law kb_covered_2_1_0 kb_is_view_1_0 kb_looks_so_2_1_0 kb_view_of_1_0 Z⟩
end K45
open PySem PySem.W PyProof.Rows
set_option maxHeartbeats 0 in
theorem PySem.Challenge.cw_healwires_k45_whole_views_judged_holds : PySem.Challenge.rw_healwires_k45_whole_views_judged.Holds := by
  w_on; o_law; k_head; (case hw => w_witness2)
  k_fill
  refine DL.walkG (l := PySem.Challenge.rw_healwires_k45_whole_views_judged) (n := 63) (k := 9) (x := "_law_script") (sp := fun mg K => DL.SpP K mg false K45.c_law) rfl (by decide) rfl ⟨rfl, by decide, by decide⟩ (fun w h Y => PySem.W.kIn_of Y) ?F (fun mg K H a ns hl ho hS => DL.spec_law (n := 63) K45.law_true H a ns hl ho hS)
  case F =>
    intro w mg fa h KX G hmg
    refine' K45.all_of KX hmg ?n__law_hash ?n__law_random ?n__law_link ?n__law_counts ?n__law_look ?n__law_contents ?n__law_odd ?n__law_pair ?n__law_two ?n__law_is_view ?n_is_tuple_of ?n_is_whole ?n_is_count ?n_is_link ?n_need_link ?n_is_bit ?n_is_sender ?n_is_seen_receiver ?n_are_counts ?n_is_view_of ?n_is_view ?n__law_seen ?n_is_lot ?n_is_receiver ?n_fits_link ?n_need_contents ?n_seen_of ?n_view_of ?n_need_view ?n_are_places ?n_covered ?n_fits_view ?n_looks_so ?n__law_looks ?n__law_right ?n__law_cell ?n__law_generator ?n_law ?z
    (case n__law_hash => refine' DL.topF_ex KX G ?a ?l ?c ?k (fun _ _ _ _ _ _ us hl => match us, hl with | [_, _], _ => rfl); (case a => k_is); (case l => k_is); (case c => k_is); (case k => k_is))
    (case n__law_random => refine' DL.topF_ex KX G ?a ?l ?c ?k (fun _ _ _ _ _ _ us hl => match us, hl with | [_, _], _ => rfl); (case a => k_is); (case l => k_is); (case c => k_is); (case k => k_is))
    (case n__law_link => refine' DL.topF_ex KX G ?a ?l ?c ?k (fun _ _ _ _ _ _ us hl => match us, hl with | [_, _], _ => rfl); (case a => k_is); (case l => k_is); (case c => k_is); (case k => k_is))
    (case n__law_counts => refine' DL.topF_ex KX G ?a ?l ?c ?k (fun _ _ _ _ _ _ us hl => match us, hl with | [_, _], _ => rfl); (case a => k_is); (case l => k_is); (case c => k_is); (case k => k_is))
    (case n__law_look => refine' DL.topF_ex KX G ?a ?l ?c ?k (fun _ _ _ _ _ _ us hl => match us, hl with | [_, _], _ => rfl); (case a => k_is); (case l => k_is); (case c => k_is); (case k => k_is))
    (case n__law_contents => refine' DL.topF_ex KX G ?a ?l ?c ?k (fun _ _ _ _ _ _ us hl => match us, hl with | [_, _], _ => rfl); (case a => k_is); (case l => k_is); (case c => k_is); (case k => k_is))
    (case n__law_odd => refine' DL.topF_ex KX G ?a ?l ?c ?k (fun _ _ _ _ _ _ us hl => match us, hl with | [_, _, _], _ => rfl); (case a => k_is); (case l => k_is); (case c => k_is); (case k => k_is))
    (case n__law_pair => refine' DL.topF_ex KX G ?a ?l ?c ?k (fun _ _ _ _ _ _ us hl => match us, hl with | [_, _], _ => rfl); (case a => k_is); (case l => k_is); (case c => k_is); (case k => k_is))
    (case n__law_two => refine' DL.topF_ex KX G ?a ?l ?c ?k (fun _ _ _ _ _ _ us hl => match us, hl with | [_, _], _ => rfl); (case a => k_is); (case l => k_is); (case c => k_is); (case k => k_is))
    (case n__law_is_view => refine' DL.topF_ex KX G ?a ?l ?c ?k (fun _ _ _ _ _ _ us hl => match us, hl with | [_, _], _ => rfl); (case a => k_is); (case l => k_is); (case c => k_is); (case k => k_is))
    (case n_is_tuple_of => refine' DL.topF_ex KX G ?a ?l ?c ?k (fun _ _ _ _ _ _ us hl => match us, hl with | [_, _], _ => rfl); (case a => k_is); (case l => k_is); (case c => k_is); (case k => k_is))
    (case n_is_whole => refine' DL.topF_ex KX G ?a ?l ?c ?k (fun _ _ _ _ _ _ us hl => match us, hl with | [_], _ => rfl); (case a => k_is); (case l => k_is); (case c => k_is); (case k => k_is))
    (case n_is_count => refine' DL.topF_ex KX G ?a ?l ?c ?k (fun _ _ _ _ _ _ us hl => match us, hl with | [_], _ => rfl); (case a => k_is); (case l => k_is); (case c => k_is); (case k => k_is))
    (case n_is_link => refine' DL.topF_ex KX G ?a ?l ?c ?k (fun _ _ _ _ _ _ us hl => match us, hl with | [_], _ => rfl); (case a => k_is); (case l => k_is); (case c => k_is); (case k => k_is))
    (case n_need_link => refine' DL.topF_ex KX G ?a ?l ?c ?k (fun _ _ _ _ _ _ us hl => match us, hl with | [_], _ => rfl); (case a => k_is); (case l => k_is); (case c => k_is); (case k => k_is))
    (case n_is_bit => refine' DL.topF_ex KX G ?a ?l ?c ?k (fun _ _ _ _ _ _ us hl => match us, hl with | [_], _ => rfl); (case a => k_is); (case l => k_is); (case c => k_is); (case k => k_is))
    (case n_is_sender => refine' DL.topF_ex KX G ?a ?l ?c ?k (fun _ _ _ _ _ _ us hl => match us, hl with | [_, _], _ => rfl); (case a => k_is); (case l => k_is); (case c => k_is); (case k => k_is))
    (case n_is_seen_receiver => refine' DL.topF_ex KX G ?a ?l ?c ?k (fun _ _ _ _ _ _ us hl => match us, hl with | [_, _], _ => rfl); (case a => k_is); (case l => k_is); (case c => k_is); (case k => k_is))
    (case n_are_counts => refine' DL.topF_ex KX G ?a ?l ?c ?k (fun _ _ _ _ _ _ us hl => match us, hl with | [_, _, _], _ => rfl); (case a => k_is); (case l => k_is); (case c => k_is); (case k => k_is))
    (case n_is_view_of => refine' DL.topF_ex KX G ?a ?l ?c ?k (fun _ _ _ _ _ _ us hl => match us, hl with | [_, _], _ => rfl); (case a => k_is); (case l => k_is); (case c => k_is); (case k => k_is))
    (case n_is_view => refine' DL.topF_ex KX G ?a ?l ?c ?k (fun _ _ _ _ _ _ us hl => match us, hl with | [_, _], _ => rfl); (case a => k_is); (case l => k_is); (case c => k_is); (case k => k_is))
    (case n__law_seen => refine' DL.topF_ex KX G ?a ?l ?c ?k (fun _ _ _ _ _ _ us hl => match us, hl with | [_], _ => rfl); (case a => k_is); (case l => k_is); (case c => k_is); (case k => k_is))
    (case n_is_lot => refine' DL.topF_ex KX G ?a ?l ?c ?k (fun _ _ _ _ _ _ us hl => match us, hl with | [_, _, _], _ => rfl); (case a => k_is); (case l => k_is); (case c => k_is); (case k => k_is))
    (case n_is_receiver => refine' DL.topF_ex KX G ?a ?l ?c ?k (fun _ _ _ _ _ _ us hl => match us, hl with | [_, _, _], _ => rfl); (case a => k_is); (case l => k_is); (case c => k_is); (case k => k_is))
    (case n_fits_link => refine' DL.topF_ex KX G ?a ?l ?c ?k (fun _ _ _ _ _ _ us hl => match us, hl with | [_, _], _ => rfl); (case a => k_is); (case l => k_is); (case c => k_is); (case k => k_is))
    (case n_need_contents => refine' DL.topF_ex KX G ?a ?l ?c ?k (fun _ _ _ _ _ _ us hl => match us, hl with | [_, _], _ => rfl); (case a => k_is); (case l => k_is); (case c => k_is); (case k => k_is))
    (case n_seen_of => refine' DL.topF_ex KX G ?a ?l ?c ?k (fun _ _ _ _ _ _ us hl => match us, hl with | [_], _ => rfl); (case a => k_is); (case l => k_is); (case c => k_is); (case k => k_is))
    (case n_view_of => refine' DL.topF_ex KX G ?a ?l ?c ?k (fun _ _ _ _ _ _ us hl => match us, hl with | [_, _], _ => rfl); (case a => k_is); (case l => k_is); (case c => k_is); (case k => k_is))
    (case n_need_view => refine' DL.topF_ex KX G ?a ?l ?c ?k (fun _ _ _ _ _ _ us hl => match us, hl with | [_, _], _ => rfl); (case a => k_is); (case l => k_is); (case c => k_is); (case k => k_is))
    (case n_are_places => refine' DL.topF_ex KX G ?a ?l ?c ?k (fun _ _ _ _ _ _ us hl => match us, hl with | [_], _ => rfl); (case a => k_is); (case l => k_is); (case c => k_is); (case k => k_is))
    (case n_covered => refine' DL.topF_ex KX G ?a ?l ?c ?k (fun _ _ _ _ _ _ us hl => match us, hl with | [_, _, _], _ => rfl); (case a => k_is); (case l => k_is); (case c => k_is); (case k => k_is))
    (case n_fits_view => refine' DL.topF_ex KX G ?a ?l ?c ?k (fun _ _ _ _ _ _ us hl => match us, hl with | [_, _], _ => rfl); (case a => k_is); (case l => k_is); (case c => k_is); (case k => k_is))
    (case n_looks_so => refine' DL.topF_ex KX G ?a ?l ?c ?k (fun _ _ _ _ _ _ us hl => match us, hl with | [_, _, _], _ => rfl); (case a => k_is); (case l => k_is); (case c => k_is); (case k => k_is))
    (case n__law_looks => refine' DL.topF_ex KX G ?a ?l ?c ?k (fun _ _ _ _ _ _ us hl => match us, hl with | [_, _], _ => rfl); (case a => k_is); (case l => k_is); (case c => k_is); (case k => k_is))
    (case n__law_right => refine' DL.topF_ex KX G ?a ?l ?c ?k (fun _ _ _ _ _ _ us hl => match us, hl with | [_], _ => rfl); (case a => k_is); (case l => k_is); (case c => k_is); (case k => k_is))
    (case n__law_cell => refine' DL.topF_ex KX G ?a ?l ?c ?k (fun _ _ _ _ _ _ us hl => match us, hl with | [_, _], _ => rfl); (case a => k_is); (case l => k_is); (case c => k_is); (case k => k_is))
    (case n__law_generator => refine' DL.topF_ex KX G ?a ?l ?c ?k (fun _ _ _ _ _ _ us hl => match us, hl with | [_, _], _ => rfl); (case a => k_is); (case l => k_is); (case c => k_is); (case k => k_is))
    (case n_law => refine' DL.topF_ex KX G ?a ?l ?c ?k (fun _ _ _ _ _ _ us hl => match us, hl with | [_], _ => rfl); (case a => k_is); (case l => k_is); (case c => k_is); (case k => k_is))
    (case z => refine' ⟨?z_all, ?z_bool, ?z_enumerate, ?z_int, ?z_isinstance, ?z_len, ?z_list, ?z_max, ?z_range, ?z_repr, ?z_sum, ?z_tuple, ?z_zip⟩; (case z_all => refine' PySem.W.mg_none_of KX G ?q_all; (case q_all => k_is)); (case z_bool => refine' PySem.W.mg_none_of KX G ?q_bool; (case q_bool => k_is)); (case z_enumerate => refine' PySem.W.mg_none_of KX G ?q_enumerate; (case q_enumerate => k_is)); (case z_int => refine' PySem.W.mg_none_of KX G ?q_int; (case q_int => k_is)); (case z_isinstance => refine' PySem.W.mg_none_of KX G ?q_isinstance; (case q_isinstance => k_is)); (case z_len => refine' PySem.W.mg_none_of KX G ?q_len; (case q_len => k_is)); (case z_list => refine' PySem.W.mg_none_of KX G ?q_list; (case q_list => k_is)); (case z_max => refine' PySem.W.mg_none_of KX G ?q_max; (case q_max => k_is)); (case z_range => refine' PySem.W.mg_none_of KX G ?q_range; (case q_range => k_is)); (case z_repr => refine' PySem.W.mg_none_of KX G ?q_repr; (case q_repr => k_is)); (case z_sum => refine' PySem.W.mg_none_of KX G ?q_sum; (case q_sum => k_is)); (case z_tuple => refine' PySem.W.mg_none_of KX G ?q_tuple; (case q_tuple => k_is)); (case z_zip => refine' PySem.W.mg_none_of KX G ?q_zip; (case q_zip => k_is)))


