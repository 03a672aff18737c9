/-
  Plain mathematics of package csp (layer 20): names, values, what further values change. No program.
-/
import Derived.Test.YtgilpheclmmolaaSplP
namespace Go.Proofs.Ytgilpheclmmolaa
open Go.RowKit

/-- What header fields say. -/
structure Cv where
  names : List (List UInt8)
  up : Bool
  bl : Bool
deriving DecidableEq
def cv0 : Cv := ⟨[], false, false⟩
def nmU : List UInt8 := [117, 112, 103, 114, 97, 100, 101, 45, 105, 110, 115, 101, 99, 117, 114, 101, 45, 114, 101, 113, 117, 101, 115, 116, 115]
def nmB : List UInt8 := [98, 108, 111, 99, 107, 45, 97, 108, 108, 45, 109, 105, 120, 101, 100, 45, 99, 111, 110, 116, 101, 110, 116]
/-- The name of a directive. -/
def nameD (d : List UInt8) : Option (List UInt8) := (wordsL d).head?.map lowL
def addC (c : Cv) (n : List UInt8) : Cv := ⟨if n ∈ c.names then c.names else c.names ++ [n], c.up || decide (n = nmU), c.bl || decide (n = nmB)⟩
def addD (c : Cv) (d : List UInt8) : Cv := match nameD d with | some n => addC c n | none => c
def addP (c : Cv) (p : List UInt8) : Cv := (splitL 59 p).foldl addD c
def addV (c : Cv) (v : List UInt8) : Cv := (splitL 44 v).foldl addP c
def tooL (vs : List (List UInt8)) : Bool := vs.any fun v => decide (4096 < v.length)
def mergeC (vs : List (List UInt8)) : Cv × Int := if tooL vs then (cv0, 3) else (vs.foldl addV cv0, 0)

/-! ### joined values -/
theorem splitG_app (c : UInt8) (b : List UInt8) : ∀ a cur, splitG c (a ++ c :: b) cur = splitG c a cur ++ splitG c b []
  | [], cur => by simp [splitG]
  | x :: a, cur => by
    rw [List.cons_append, splitG, splitG]
    by_cases h : x = c
    · rw [if_pos h, if_pos h, splitG_app c b a []]
      rfl
    · rw [if_neg h, if_neg h]
      exact splitG_app c b a _
theorem splitL_app (c : UInt8) (a b : List UInt8) : splitL c (a ++ c :: b) = splitL c a ++ splitL c b := splitG_app c b a []
theorem addV_app (c : Cv) (a b : List UInt8) : addV c (a ++ 44 :: b) = addV (addV c a) b := by
  unfold addV
  rw [splitL_app, List.foldl_append]
theorem addV_nil (c : Cv) : addV c [] = c := by
  have h : splitL 44 [] = [[]] := by decide +kernel
  have h2 : splitL 59 [] = [[]] := by decide +kernel
  have h3 : nameD [] = none := by decide +kernel
  unfold addV addP
  rw [h]
  simp only [List.foldl_cons, List.foldl_nil]
  rw [h2]
  simp only [List.foldl_cons, List.foldl_nil]
  unfold addD
  rw [h3]
theorem addV_join : ∀ (vs : List (List UInt8)) (c : Cv), vs ≠ [] → addV c (joinL 44 vs) = vs.foldl addV c
  | [], _, h => absurd rfl h
  | [a], c, _ => rfl
  | a :: b :: r, c, _ => by
    rw [joinL_cons 44 a (b :: r) (by simp), addV_app, addV_join (b :: r) _ (by simp)]
    rfl
theorem addV_joined (vs : List (List UInt8)) (c : Cv) : addV c (joinL 44 vs) = vs.foldl addV c := by
  cases vs with
  | nil => exact addV_nil c
  | cons a r => exact addV_join (a :: r) c (by simp)
theorem joinL_le (c : UInt8) : ∀ (vs : List (List UInt8)) (v : List UInt8), v ∈ vs → v.length ≤ (joinL c vs).length
  | [], v, h => by simp at h
  | [a], v, h => by
    simp at h
    subst h
    exact Nat.le_refl _
  | a :: b :: r, v, h => by
    rw [joinL_cons c a (b :: r) (by simp)]
    rcases List.mem_cons.1 h with rfl | h
    · simp
    · have := joinL_le c (b :: r) v h
      simp
      omega
/-- Several values mean the same as one value in which they are joined. -/
theorem merge_join {vs : List (List UInt8)} (h : (joinL 44 vs).length ≤ 4096) : mergeC [joinL 44 vs] = (vs.foldl addV cv0, 0) ∧ mergeC vs = (vs.foldl addV cv0, 0) := by
  have h1 : tooL [joinL 44 vs] = false := by
    unfold tooL
    simp
    omega
  have h2 : tooL vs = false := by
    unfold tooL
    rw [List.any_eq_false]
    intro v hv
    have := joinL_le 44 vs v hv
    simp
    omega
  unfold mergeC
  rw [h1, h2]
  refine ⟨?_, rfl⟩
  simp only [List.foldl_cons, List.foldl_nil, addV_joined]
  rfl

/-! ### what is always so -/
/-- The names are different, in lower case and not empty; the flags tell whether the two known ones are among them. -/
structure CInv (c : Cv) : Prop where
  nodup : c.names.Nodup
  low : ∀ n ∈ c.names, n ≠ [] ∧ lowL n = n
  up : c.up = decide (nmU ∈ c.names)
  bl : c.bl = decide (nmB ∈ c.names)
theorem CInv.zero : CInv cv0 := ⟨by simp [cv0], by simp [cv0], by simp [cv0], by simp [cv0]⟩
theorem CInv.add {c : Cv} (h : CInv c) {n : List UInt8} (h1 : n ≠ []) (h2 : lowL n = n) : CInv (addC c n) := by
  by_cases hm : n ∈ c.names
  · have e : (addC c n).names = c.names := by unfold addC; simp [hm]
    refine ⟨by rw [e]; exact h.nodup, by rw [e]; exact h.low, ?_, ?_⟩
    · rw [e]
      show (c.up || decide (n = nmU)) = _
      rw [h.up]
      by_cases hn : n = nmU
      · subst hn
        simp [hm]
      · simp [hn]
    · rw [e]
      show (c.bl || decide (n = nmB)) = _
      rw [h.bl]
      by_cases hn : n = nmB
      · subst hn
        simp [hm]
      · simp [hn]
  · have e : (addC c n).names = c.names ++ [n] := by unfold addC; simp [hm]
    refine ⟨?_, ?_, ?_, ?_⟩
    · rw [e, List.nodup_append]
      refine ⟨h.nodup, by simp, ?_⟩
      intro a ha b hb
      simp at hb
      subst hb
      intro x
      subst x
      exact hm ha
    · rw [e]
      intro m hmm
      rcases List.mem_append.1 hmm with hmm | hmm
      · exact h.low m hmm
      · simp at hmm
        subst hmm
        exact ⟨h1, h2⟩
    · rw [e]
      show (c.up || decide (n = nmU)) = _
      rw [h.up]
      by_cases hn : n = nmU
      · simp [hn]
      · have : ¬ nmU = n := fun x => hn x.symm
        simp [hn, this]
    · rw [e]
      show (c.bl || decide (n = nmB)) = _
      rw [h.bl]
      by_cases hn : n = nmB
      · simp [hn]
      · have : ¬ nmB = n := fun x => hn x.symm
        simp [hn, this]
theorem wordsFrom_ne : ∀ (l cur : List UInt8), ∀ x ∈ wordsFrom l cur, x ≠ []
  | [], cur, x, h => by
    unfold wordsFrom at h
    cases cur with
    | nil => simp at h
    | cons a r =>
      simp at h
      subst h
      simp
  | c :: l, cur, x, h => by
    unfold wordsFrom at h
    cases hs : spaceU c with
    | true =>
      rw [hs, if_pos rfl] at h
      cases cur with
      | nil => exact wordsFrom_ne l [] x (by simpa using h)
      | cons a r =>
        simp at h
        rcases h with rfl | h
        · simp
        · exact wordsFrom_ne l [] x h
    | false =>
      rw [hs, if_neg (by decide)] at h
      exact wordsFrom_ne l _ x h
theorem nameD_ok {d n : List UInt8} (h : nameD d = some n) : n ≠ [] ∧ lowL n = n := by
  unfold nameD at h
  cases hw : (wordsL d).head? with
  | none => rw [hw] at h; cases h
  | some x =>
    rw [hw] at h
    simp at h
    subst h
    have hx : x ∈ wordsL d := List.mem_of_mem_head? (by rw [hw]; rfl)
    have hne := wordsFrom_ne d [] x hx
    refine ⟨?_, lowL_lowL x⟩
    intro e
    have := lowL_length x
    rw [e] at this
    exact hne (List.eq_nil_of_length_eq_zero (by simpa using this.symm))
theorem CInv.dir {c : Cv} (h : CInv c) (d : List UInt8) : CInv (addD c d) := by
  unfold addD
  cases hn : nameD d with
  | none => exact h
  | some n => exact h.add (nameD_ok hn).1 (nameD_ok hn).2
theorem CInv.dirs : ∀ (ds : List (List UInt8)) {c : Cv}, CInv c → CInv (ds.foldl addD c)
  | [], _, h => h
  | d :: r, _, h => CInv.dirs r (h.dir d)
theorem CInv.pols : ∀ (ps : List (List UInt8)) {c : Cv}, CInv c → CInv (ps.foldl addP c)
  | [], _, h => h
  | p :: r, _, h => CInv.pols r (CInv.dirs (splitL 59 p) h)
theorem CInv.vals : ∀ (vs : List (List UInt8)) {c : Cv}, CInv c → CInv (vs.foldl addV c)
  | [], _, h => h
  | v :: r, _, h => CInv.vals r (CInv.pols (splitL 44 v) h)
theorem merge_inv (vs : List (List UInt8)) : CInv (mergeC vs).1 := by
  unfold mergeC
  cases tooL vs with
  | true => exact CInv.zero
  | false => exact CInv.vals vs CInv.zero

/-! ### what further values change -/
/-- Names stand behind those that are known, no flag is reset. -/
def CLe (a b : Cv) : Prop := a.names <+: b.names ∧ (a.up = true → b.up = true) ∧ (a.bl = true → b.bl = true)
theorem CLe.refl (a : Cv) : CLe a a := ⟨List.prefix_refl _, id, id⟩
theorem CLe.trans {a b c : Cv} (h : CLe a b) (k : CLe b c) : CLe a c := ⟨h.1.trans k.1, fun x => k.2.1 (h.2.1 x), fun x => k.2.2 (h.2.2 x)⟩
theorem addC_le (c : Cv) (n : List UInt8) : CLe c (addC c n) := by
  unfold addC
  refine ⟨?_, fun h => by simp [h], fun h => by simp [h]⟩
  by_cases hm : n ∈ c.names
  · simp [hm]
  · simp [hm]
theorem addD_le (c : Cv) (d : List UInt8) : CLe c (addD c d) := by
  unfold addD
  cases nameD d with
  | none => exact CLe.refl c
  | some n => exact addC_le c n
theorem fold_le {f : Cv → List UInt8 → Cv} (hf : ∀ c d, CLe c (f c d)) : ∀ (ds : List (List UInt8)) (c : Cv), CLe c (ds.foldl f c)
  | [], c => CLe.refl c
  | d :: r, c => (hf c d).trans (fold_le hf r _)
theorem addP_le (c : Cv) (p : List UInt8) : CLe c (addP c p) := fold_le addD_le (splitL 59 p) c
theorem addV_le (c : Cv) (v : List UInt8) : CLe c (addV c v) := fold_le addP_le (splitL 44 v) c
theorem merge_more {vs : List (List UInt8)} {m : List UInt8} (hm : m.length ≤ 4096) (h : (mergeC vs).2 = 0) : (mergeC (vs ++ [m])).2 = 0 ∧ CLe (mergeC vs).1 (mergeC (vs ++ [m])).1 := by
  have ht : tooL vs = false := by
    cases ht : tooL vs with
    | false => rfl
    | true =>
      unfold mergeC at h
      rw [ht] at h
      cases h
  have ht2 : tooL (vs ++ [m]) = false := by
    unfold tooL at ht ⊢
    rw [List.any_append, ht]
    simp
    omega
  unfold mergeC
  rw [ht, ht2]
  refine ⟨rfl, ?_⟩
  rw [List.foldl_append]
  exact addV_le _ m
theorem merge_bad {vs : List (List UInt8)} {m : List UInt8} (h : (mergeC vs).2 ≠ 0) : mergeC vs = (cv0, 3) ∧ mergeC (vs ++ [m]) = (cv0, 3) := by
  have ht : tooL vs = true := by
    cases ht : tooL vs with
    | true => rfl
    | false =>
      unfold mergeC at h
      rw [ht] at h
      exact absurd rfl h
  have ht2 : tooL (vs ++ [m]) = true := by
    unfold tooL at ht ⊢
    rw [List.any_append, ht]
    rfl
  unfold mergeC
  rw [ht, ht2]
  exact ⟨rfl, rfl⟩

end Go.Proofs.Ytgilpheclmmolaa
