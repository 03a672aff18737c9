/-
  Plain mathematics of package sts: policies. No program.
-/
import Derived.Test.YtpopkeidpohdiaaDoorDiU
import Derived.Test.YtpopkeidpohdiaaDoorDiQ
import Derived.Test.YtpopkeidpohdiaaDoorSecP
namespace Go.Proofs.YtpopkeidpohdiaaDoor
open Go.RowKit

/-- A policy. -/
structure Pv where
  age : Int
  sub : Bool
deriving DecidableEq
def pv0 : Pv := ⟨0, false⟩
def nmA : List UInt8 := [109, 97, 120, 45, 97, 103, 101]
def nmI : List UInt8 := [105, 110, 99, 108, 117, 100, 101, 115, 117, 98, 100, 111, 109, 97, 105, 110, 115]
theorem nm_ne : nmA ≠ nmI := by decide
/-- Do two directives have the same name? -/
def dupL (l : List Dv) : Bool := !decide (l.map (·.name)).Nodup
/-- The directives one by one; the numbers are those of the errors. -/
def polGo : List Dv → Pv → Bool → Pv × Int
  | [], p, f => if f then (p, 0) else (pv0, 18)
  | d :: r, p, f =>
    if d.name = nmA then (if digitsB (bs d.value) then polGo r ⟨perV (bs d.value), p.sub⟩ true else (pv0, 6))
    else if d.name = nmI then (if d.has then (pv0, 6) else polGo r ⟨p.age, true⟩ f)
    else polGo r p f
def polL (l : List Dv) : Pv × Int := if dupL l then (pv0, 17) else polGo l pv0 false
def stsP (s : List UInt8) : Pv × Int := if (dirL s).2 = 0 then polL (dirL s).1 else (pv0, (dirL s).2)
def inclT : List UInt8 := [59, 32, 105, 110, 99, 108, 117, 100, 101, 83, 117, 98, 68, 111, 109, 97, 105, 110, 115]
/-- What Format returns. -/
def fmtP (p : Pv) : List UInt8 × Int := if p.age < 0 ∨ 2147483647 < p.age then ([], 2) else (nmA ++ 61 :: Lib.decDigits p.age.toNat ++ (if p.sub then inclT else []), 0)

/-! ### the policy in other words -/
def isA (d : Dv) : Bool := decide (d.name = nmA)
def isI (d : Dv) : Bool := decide (d.name = nmI)
def badD (d : Dv) : Bool := (isA d && !digitsB (bs d.value)) || (isI d && d.has)
def lastA (l : List Dv) (a : Int) : Int := l.foldl (fun a d => if d.name = nmA then perV (bs d.value) else a) a
theorem polGo_eq : ∀ (l : List Dv) (p : Pv) (f : Bool), polGo l p f = if l.any badD then (pv0, 6) else if f || l.any isA then (⟨lastA l p.age, p.sub || l.any isI⟩, 0) else (pv0, 18)
  | [], p, f => by
    rw [polGo]
    cases f <;> simp [lastA]
  | d :: r, p, f => by
    rw [polGo]
    by_cases hA : d.name = nmA
    · have hI : ¬ d.name = nmI := fun e => nm_ne (hA.symm.trans e)
      rw [if_pos hA]
      cases hd : digitsB (bs d.value) with
      | false => simp [badD, isA, hA, hd]
      | true =>
        rw [if_pos rfl, polGo_eq r]
        have hb : badD d = false := by simp [badD, isA, isI, hd, hI]
        have ha : isA d = true := by simp [isA, hA]
        have hi : isI d = false := by simp [isI, hI]
        simp only [List.any_cons, hb, ha, hi, Bool.false_or, Bool.true_or, Bool.or_true]
        have hl : lastA (d :: r) p.age = lastA r (perV (bs d.value)) := by simp [lastA, hA]
        rw [hl]
    · rw [if_neg hA]
      have ha : isA d = false := by simp [isA, hA]
      have hl : lastA (d :: r) p.age = lastA r p.age := by simp [lastA, hA]
      by_cases hI : d.name = nmI
      · rw [if_pos hI]
        have hi : isI d = true := by simp [isI, hI]
        cases hh : d.has with
        | true => simp [badD, hi, hh]
        | false =>
          rw [if_neg (by decide), polGo_eq r]
          have hb : badD d = false := by simp [badD, ha, hh]
          simp only [List.any_cons, hb, ha, hi, Bool.false_or, Bool.true_or, Bool.or_true, hl]
      · rw [if_neg hI, polGo_eq r]
        have hi : isI d = false := by simp [isI, hI]
        have hb : badD d = false := by simp [badD, ha, hi]
        simp only [List.any_cons, hb, ha, hi, Bool.false_or, hl]
theorem polL_eq (l : List Dv) : polL l = if dupL l then (pv0, 17) else if l.any badD then (pv0, 6) else if l.any isA then (⟨lastA l 0, l.any isI⟩, 0) else (pv0, 18) := by
  unfold polL
  rw [polGo_eq]
  rfl
/-- Of the directives that are named max-age. -/
theorem lastA_none : ∀ (l : List Dv) (a : Int), l.any isA = false → lastA l a = a
  | [], _, _ => rfl
  | d :: r, a, h => by
    rw [List.any_cons, Bool.or_eq_false_iff] at h
    have hA : ¬ d.name = nmA := by have := h.1; simpa [isA] using this
    have ih := lastA_none r a h.2
    rw [show lastA (d :: r) a = lastA r a by simp [lastA, hA], ih]
theorem lastA_mem : ∀ (l : List Dv) (a : Int) (d : Dv), (l.map (·.name)).Nodup → d ∈ l → d.name = nmA → lastA l a = perV (bs d.value)
  | [], _, _, _, h, _ => by simp at h
  | e :: r, a, d, hn, hm, hd => by
    rw [List.map_cons, List.nodup_cons] at hn
    rcases List.mem_cons.1 hm with rfl | hm
    · rw [show lastA (d :: r) a = lastA r (perV (bs d.value)) by simp [lastA, hd]]
      refine lastA_none r _ ?_
      rw [List.any_eq_false]
      intro x hx hxa
      have hxn : x.name = nmA := by simpa [isA] using hxa
      exact hn.1 (by rw [hd, ← hxn]; exact List.mem_map_of_mem hx)
    · have he : ¬ e.name = nmA := fun h => hn.1 (by rw [h, ← hd]; exact List.mem_map_of_mem hm)
      rw [show lastA (e :: r) a = lastA r a by simp [lastA, he]]
      exact lastA_mem r a d hn.2 hm hd
theorem any_perm {l m : List Dv} (h : l.Perm m) (f : Dv → Bool) : l.any f = m.any f := by
  rw [Bool.eq_iff_iff, List.any_eq_true, List.any_eq_true]
  constructor
  · rintro ⟨x, hx, hf⟩
    exact ⟨x, h.mem_iff.1 hx, hf⟩
  · rintro ⟨x, hx, hf⟩
    exact ⟨x, h.mem_iff.2 hx, hf⟩
/-- The order does not matter. -/
theorem polL_perm {l m : List Dv} (h : l.Perm m) : polL l = polL m := by
  have hn : (l.map (·.name)).Nodup ↔ (m.map (·.name)).Nodup := (h.map _).nodup_iff
  have hd : dupL l = dupL m := by unfold dupL; rw [decide_eq_decide.2 hn]
  rw [polL_eq, polL_eq, hd, any_perm h badD, any_perm h isA, any_perm h isI]
  cases hdm : dupL m with
  | true => rfl
  | false =>
    have hnm : (m.map (·.name)).Nodup := by unfold dupL at hdm; simpa using hdm
    cases ha : m.any isA with
    | false => rfl
    | true =>
      rw [List.any_eq_true] at ha
      obtain ⟨x, hx, hxa⟩ := ha
      have hxn : x.name = nmA := by simpa [isA] using hxa
      rw [lastA_mem m 0 x hnm hx hxn, lastA_mem l 0 x (hn.2 hnm) (h.mem_iff.2 hx) hxn]
/-- A directive that is neither known nor used changes nothing, wherever it stands. -/
theorem polL_more {l : List Dv} {d : Dv} (h1 : d.name ≠ nmA) (h2 : d.name ≠ nmI) (h3 : ∀ e ∈ l, e.name ≠ d.name) : polL (d :: l) = polL l := by
  have hn : ((d :: l).map (·.name)).Nodup ↔ (l.map (·.name)).Nodup := by
    rw [List.map_cons, List.nodup_cons]
    constructor
    · exact fun h => h.2
    · intro h
      refine ⟨?_, h⟩
      intro hm
      obtain ⟨e, he, hen⟩ := List.mem_map.1 hm
      exact h3 e he hen
  have hd : dupL (d :: l) = dupL l := by unfold dupL; rw [decide_eq_decide.2 hn]
  have ha : isA d = false := by simp [isA, h1]
  have hi : isI d = false := by simp [isI, h2]
  have hb : badD d = false := by simp [badD, ha, hi]
  have hl : lastA (d :: l) 0 = lastA l 0 := by simp [lastA, h1]
  rw [polL_eq, polL_eq, hd, List.any_cons, List.any_cons, List.any_cons, ha, hi, hb, hl]
  rfl
theorem polL_more2 {l : List Dv} {d : Dv} (h1 : d.name ≠ nmA) (h2 : d.name ≠ nmI) (h3 : ∀ e ∈ l, e.name ≠ d.name) : polL (l ++ [d]) = polL l := by
  rw [polL_perm (m := d :: l) (List.perm_append_comm), polL_more h1 h2 h3]
theorem swap_perm {l : List Dv} {i j : Nat} (hi : i < l.length) (hj : j < l.length) : ((l.set i l[j]).set j l[i]).Perm l := List.set_set_perm hi hj
theorem stsP_err {s : List UInt8} (h : (dirL s).2 ≠ 0) : stsP s = (pv0, (dirL s).2) := by unfold stsP; rw [if_neg h]
theorem stsP_list {s : List UInt8} {l : List Dv} (h : dirL s = (l, 0)) : stsP s = polL l := by unfold stsP; rw [h]; rfl

end Go.Proofs.YtpopkeidpohdiaaDoor
