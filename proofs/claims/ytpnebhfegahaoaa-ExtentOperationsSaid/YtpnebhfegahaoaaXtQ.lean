/-
  How many operations a write performs, and at which an armed error is met, as plain data. No program.
-/
import Derived.Test.YtpnebhfegahaoaaXtP
namespace Go.Proofs.Ytpnebhfegahaoaa
open Go.RowKit

def nop (k : Nat) : Nat := if k < 64 then 2 else 1
def nops : List (Nat × Nat × Nat) → Nat
  | [] => 0
  | c :: cs => nop c.2.2 + nops cs
def lens : List (Nat × Nat × Nat) → Nat
  | [] => 0
  | c :: cs => c.2.2 + lens cs
theorem lens_chs (fu : Nat) : ∀ off m, m ≤ fu → lens (chs fu off m) = m := by
  induction fu with
  | zero => intro off m h; obtain rfl : m = 0 := by omega
            rfl
  | succ fu ih =>
    intro off m h
    by_cases hm : m = 0
    · subst hm; rw [chs_nil]; rfl
    · have := cklen_pos (off := off) (m := m) (by omega)
      have := cklen_le off m
      simp only [chs, if_neg hm, lens]
      rw [ih _ _ (by omega)]
      omega
theorem lens_ck (off m : Nat) : lens (ck off m) = m := lens_chs m off m (Nat.le_refl _)
theorem chs_le64 (fu : Nat) : ∀ off m, ∀ c ∈ chs fu off m, c.2.2 ≤ 64 := by
  induction fu with
  | zero => intro off m c hc; cases hc
  | succ fu ih =>
    intro off m c hc
    by_cases hm : m = 0
    · subst hm; rw [chs_nil] at hc; cases hc
    · simp only [chs, if_neg hm, List.mem_cons] at hc
      rcases hc with rfl | hc
      · have := cklen_64 off m; simp only; omega
      · exact ih _ _ c hc
theorem nops_chs (fu : Nat) : ∀ off m, nops (chs fu off m) ≤ 2 * m := by
  induction fu with
  | zero => intro off m; simp [chs, nops]
  | succ fu ih =>
    intro off m
    by_cases hm : m = 0
    · subst hm; rw [chs_nil]; simp [nops]
    · have h1 := cklen_pos (off := off) (m := m) (by omega)
      have h2 := cklen_le off m
      have h3 := ih (off + cklen off m) (m - cklen off m)
      have h4 : nop (cklen off m) ≤ 2 := by unfold nop; split <;> omega
      simp only [chs, if_neg hm, nops]
      omega

/-- The operations in the sector s. -/
def secop (off m s : Nat) : Nat := if max off (64 * s) < min (off + m) (64 * (s + 1)) then nop (min (off + m) (64 * (s + 1)) - max off (64 * s)) else 0
def opc (off m : Nat) : Nat → Nat
  | 0 => 0
  | s + 1 => opc off m s + secop off m s
theorem opc_cki (off m : Nat) : ∀ s, opc off m s + nops (cki off m (max s (off / 64))) = nops (ck off m) := by
  intro s
  induction s with
  | zero =>
    rw [show max 0 (off / 64) = off / 64 by omega, cki_start]
    simp [opc]
  | succ s ih =>
    rw [← ih]
    simp only [opc]
    by_cases hs : s < off / 64
    · have : secop off m s = 0 := by unfold secop; rw [if_neg (by omega)]
      rw [this, show max (s + 1) (off / 64) = off / 64 by omega, show max s (off / 64) = off / 64 by omega]
      rfl
    · rw [show max (s + 1) (off / 64) = s + 1 by omega, show max s (off / 64) = s by omega]
      by_cases hm : 0 < m ∧ 64 * s < off + m
      · rw [cki_step (by omega) hm.1 hm.2]
        have h1 : max off (64 * s) < min (off + m) (64 * (s + 1)) := by omega
        have h2 : min (off + m) (64 * (s + 1)) - max off (64 * s) = pto off m s - pfrom off s := by unfold pto pfrom; omega
        have : secop off m s = nop (pto off m s - pfrom off s) := by unfold secop; rw [if_pos h1, h2]
        rw [this]
        simp only [nops]
        omega
      · have : secop off m s = 0 := by unfold secop; rw [if_neg (by omega)]
        rw [this]
        have e : ∀ t, s ≤ t → cki off m t = [] := fun t ht => by
          unfold cki
          rw [show off + m - max off (64 * t) = 0 by omega, ck_zero]
        rw [e s (Nat.le_refl _), e (s + 1) (by omega)]
        rfl
theorem opc_all {off m n : Nat} (h : off + m ≤ 64 * n) : opc off m n = nops (ck off m) := by
  have := opc_cki off m n
  rw [cki_end (by omega)] at this
  simpa [nops] using this
theorem opc_mono {off m s t : Nat} (h : s ≤ t) : opc off m s ≤ opc off m t := by
  induction t with
  | zero => obtain rfl : s = 0 := by omega
            exact Nat.le_refl _
  | succ t ih =>
    by_cases hs : s = t + 1
    · subst hs; exact Nat.le_refl _
    · have := ih (by omega); simp only [opc]; omega
theorem opc_le (off m : Nat) : ∀ s, opc off m s ≤ 2 * s := by
  intro s
  induction s with
  | zero => exact Nat.le_refl _
  | succ s ih =>
    have : secop off m s ≤ 2 := by unfold secop nop; split <;> (try split) <;> omega
    simp only [opc]
    omega

/-- The power is on, and only an error is armed, at the operation K. -/
def At1 (S : Dsk) (K : Int) : Prop := S.fs = [(K, 1)] ∧ S.off = false
theorem At1.kind {S : Dsk} {K : Int} (h : At1 S K) : S.kind = if K = S.cnt then 1 else 0 := by unfold Dsk.kind; rw [h.1, fk_cons, fk_nil]
theorem At1.miss {S : Dsk} {K : Int} (h : At1 S K) (hK : K ≠ S.cnt) : S.ans true = 0 ∧ S.done true = S.tick ∧ ∀ i xs, S.wrote true i xs = S.tick.put i xs := by
  have hk : S.kind = 0 := by rw [h.kind, if_neg hK]
  have he : S.err true = 0 := by simp [Dsk.err, h.2, hk]
  have hp : S.pow true = false := by simp [Dsk.pow, h.2, hk]
  have hb : S.begun true = S.tick := by simp [Dsk.begun, h.2]
  have hd : S.done true = S.tick := by simp [Dsk.done, he, hp, hb]
  exact ⟨by simp [Dsk.ans, he, hp], hd, fun i xs => by simp [Dsk.wrote, he, hd]⟩
theorem At1.hit {S : Dsk} {K : Int} (h : At1 S K) (hK : K = S.cnt) : S.ans true = 9 ∧ S.done true = S.tick ∧ ∀ i xs, S.wrote true i xs = S.tick := by
  have hk : S.kind = 1 := by rw [h.kind, if_pos hK]
  have he : S.err true = 9 := by simp [Dsk.err, h.2, hk]
  have hb : S.begun true = S.tick := by simp [Dsk.begun, h.2]
  exact ⟨by simp [Dsk.ans, he], by simp [Dsk.done, he, hb], fun i xs => by simp [Dsk.wrote, he, hb]⟩
theorem At1.tick {S : Dsk} {K : Int} (h : At1 S K) : At1 S.tick K := h
theorem At1.put {S : Dsk} {K : Int} (h : At1 S K) (i : Nat) (xs : List UInt8) : At1 (S.put i xs) K := h
theorem tick_cnt {S : Dsk} (h0 : 0 ≤ S.cnt) (h1 : S.cnt ≤ 1000000) : S.tick.cnt = S.cnt + 1 := by simp only [Dsk.tick]; unfold wrap64; omega
theorem put_cnt (S : Dsk) (i : Nat) (xs : List UInt8) : (S.put i xs).cnt = S.cnt := rfl
theorem repl_count {S : Dsk} {K : Int} (h : At1 S K) (i p : Nat) (xs : List UInt8) (hx : xs.length ≤ 64) (h0 : 0 ≤ S.cnt) (h1 : S.cnt ≤ 900000) :
    (K < S.cnt ∨ S.cnt + nop xs.length ≤ K → (S.repl i p xs).2 = 0 ∧ At1 (S.repl i p xs).1 K ∧ (S.repl i p xs).1.cnt = S.cnt + nop xs.length) ∧
    (S.cnt ≤ K → K < S.cnt + nop xs.length → (S.repl i p xs).2 = 9 ∧ At1 (S.repl i p xs).1 K ∧ (S.repl i p xs).1.cnt = K + 1) := by
  have ht := tick_cnt h0 (by omega)
  unfold nop
  by_cases hl : xs.length = 64
  · rw [if_neg (by omega)]
    have hr : S.repl i p xs = (S.wrote true i xs, S.ans true) := by simp [Dsk.repl, hl]
    rw [hr]
    refine ⟨fun hK => ?_, fun hK1 hK2 => ?_⟩
    · obtain ⟨e1, e2, e3⟩ := h.miss (by omega)
      exact ⟨e1, by simp only [e3]; exact h.tick.put i xs, by simp only [e3, put_cnt, ht]; omega⟩
    · obtain ⟨e1, e2, e3⟩ := h.hit (by omega)
      exact ⟨e1, by simp only [e3]; exact h.tick, by simp only [e3, ht]; omega⟩
  · rw [if_pos (by omega)]
    by_cases hc : K = S.cnt
    · obtain ⟨e1, e2, e3⟩ := h.hit hc
      have hr : S.repl i p xs = (S.tick, 9) := by simp [Dsk.repl, hl, e1, e2]
      rw [hr]
      exact ⟨fun hK => by omega, fun _ _ => ⟨rfl, h.tick, by simp only [ht]; omega⟩⟩
    · obtain ⟨e1, e2, e3⟩ := h.miss hc
      have hr : S.repl i p xs = (S.tick.wrote true i (splice (S.sec i) p xs), S.tick.ans true) := by simp [Dsk.repl, hl, e1, e2]
      rw [hr]
      have ht2 := tick_cnt (S := S.tick) (by omega) (by omega)
      refine ⟨fun hK => ?_, fun hK1 hK2 => ?_⟩
      · obtain ⟨g1, g2, g3⟩ := h.tick.miss (by rw [ht]; omega)
        exact ⟨g1, by simp only [g3]; exact h.tick.tick.put _ _, by simp only [g3, put_cnt, ht2, ht]; omega⟩
      · obtain ⟨g1, g2, g3⟩ := h.tick.hit (by rw [ht]; omega)
        exact ⟨g1, by simp only [g3]; exact h.tick.tick, by simp only [g3, ht2, ht]; omega⟩
theorem wrc_count (f : Nat) {K : Int} (cs : List (Nat × Nat × Nat)) (h64 : ∀ c ∈ cs, c.2.2 ≤ 64) : ∀ (S : Dsk) (d : List UInt8), At1 S K → lens cs ≤ d.length → 0 ≤ S.cnt → S.cnt + nops cs ≤ 900000 →
    (K < S.cnt ∨ S.cnt + nops cs ≤ K → (wrc f cs S d).2 = 0 ∧ At1 (wrc f cs S d).1 K ∧ (wrc f cs S d).1.cnt = S.cnt + nops cs) ∧
    (S.cnt ≤ K → K < S.cnt + nops cs → (wrc f cs S d).2 = 9 ∧ At1 (wrc f cs S d).1 K ∧ (wrc f cs S d).1.cnt = K + 1) := by
  induction cs with
  | nil =>
    intro S d h _ h0 h1
    simp only [nops, wrc]
    exact ⟨fun _ => ⟨by trivial, h, by omega⟩, fun h1 h2 => by omega⟩
  | cons c cs ih =>
    intro S d h hl h0 h1
    simp only [lens] at hl
    simp only [nops] at h1 ⊢
    have hc64 := h64 c (by simp)
    have htl : (d.take c.2.2).length = c.2.2 := by simp; omega
    have hrc := repl_count h (f + c.1) c.2.1 (d.take c.2.2) (by omega) h0 (by omega)
    rw [htl] at hrc
    obtain ⟨r1, r2⟩ := hrc
    by_cases hK : S.cnt ≤ K ∧ K < S.cnt + nop c.2.2
    · obtain ⟨e1, e2, e3⟩ := r2 hK.1 hK.2
      have hw : wrc f (c :: cs) S d = S.repl (f + c.1) c.2.1 (d.take c.2.2) := by simp [wrc, e1]
      rw [hw]
      exact ⟨fun h => by omega, fun _ _ => ⟨e1, e2, e3⟩⟩
    · obtain ⟨e1, e2, e3⟩ := r1 (by omega)
      have hw : wrc f (c :: cs) S d = wrc f cs (S.repl (f + c.1) c.2.1 (d.take c.2.2)).1 (d.drop c.2.2) := by simp [wrc, e1]
      rw [hw]
      obtain ⟨q1, q2⟩ := ih (fun c hc => h64 c (by simp [hc])) _ (d.drop c.2.2) e2 (by simp; omega) (by omega) (by omega)
      rw [e3] at q1 q2
      exact ⟨fun h => by obtain ⟨a, b, c⟩ := q1 (by omega); exact ⟨a, b, by omega⟩, fun h1 h2 => q2 (by omega) (by omega)⟩

end Go.Proofs.Ytpnebhfegahaoaa
