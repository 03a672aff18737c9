/-
  The contract of the reference's New; the two disks' operations, one statement each.
-/
import Derived.Test.YtbknpfngboioeaaDrC
namespace Go.Proofs.Ytbknpfngboioeaa
open Go.RowKit

theorem RD.congr {w : World} {F : Nat → Prop} {a n : Nat} {S : Dsk} (h : RD w F a n S) (st : Nat → List UInt8) (hs : ∀ i, i < n → S.st i = st i) : RD w F a n (S.withSt st) := by
  obtain ⟨r1, r2, c1, c2, A, m, c, V1, V2, h⟩ := h
  exact ⟨r1, r2, c1, c2, A, m, c, V1, V2, ⟨h.ok.n1, h.ok.n4, fun i hi => by show (st i).length = 64; rw [← hs i hi]; exact h.ok.st i hi, h.ok.ca, h.ok.c0, h.ok.c1⟩, h.cells, h.row1, h.row2, h.ne, fun i hi => by show Sl w F (V1 i) (st i); rw [← hs i hi]; exact h.v1 i hi, h.v2, h.flt, h.m64, h.fa, h.f1, h.f2, h.lt⟩
set_option maxHeartbeats 400000 in
theorem rnew_no (s : Int) (w : World) (hs : possB s = false) : Calls Try.prog 10 #[.int .i64 s] w fun e w' => e = .returned (.tuple #[.pointer none, .int .i64 2]) ∧ w = w' := by
  by_cases h1 : s < 1
  · have h1' : decide (s < 1) = true := by simpa using h1
    clear hs h1
    go_enter Try.func10, Try.ntmps10
    go_wp2
    go_ret2
    exact ⟨rfl, rfl⟩
  · have h2 : (4096 : Int) < s := by simp [possB] at hs; omega
    have h1' : decide (s < 1) = false := by simpa using h1
    have h2' : decide ((4096 : Int) < s) = true := by simpa using h2
    clear hs
    go_enter Try.func10, Try.ntmps10
    go_wp2
    go_ret2
    exact ⟨rfl, rfl⟩
set_option maxRecDepth 20000 in
set_option maxHeartbeats 800000 in
theorem rnew_yes (n : Nat) (w : World) (h1 : 1 ≤ n) (h4 : n ≤ 4096) : Calls Try.prog 10 #[.int .i64 n] w fun e w' => ∃ a, e = .returned (.tuple #[.pointer (some ⟨a, 0, none⟩), .int .i64 0]) ∧ RD w' (newF w w') a n (Dsk.fresh st0) ∧ Below w.heap.size w w' := by
  obtain ⟨L, hL⟩ : ∃ L, L = 64 * n := ⟨_, rfl⟩
  have hw : wrap64 ((n : Int) * 64) = (L : Int) := by unfold wrap64; omega
  have hw' : (n : Int) * 64 = (L : Int) := by omega
  have hL4 : Hid (L ≤ 281474976710656) := by show _ ≤ _; omega
  have hL' := Lib.hid hL
  have H := Lib.hid (And.intro h1 h4)
  have g1 : decide ((n : Int) < 1) = false := by simp; omega
  have g2 : decide ((4096 : Int) < (n : Int)) = false := by simp; omega
  have g3 : ¬ (n : Int) < 1 := by omega
  have g4 : ¬ (4096 : Int) < (n : Int) := by omega
  clear hL h1 h4
  go_enter Try.func10, Try.ntmps10
  go_wp2_with (first
    | (at_make; refine wpList_make_bytes _ rfl _ _ (by exact rfl) L (by exact rfl) (by exact rfl) (by exact hL4.out) ?_; intro w1 g hg0 hg1 hrow hgr; have hb1 := (Below.refl w.heap.size w).grown hgr (Nat.le_refl _) (fun k e => by cases e); have hrow' : w1.heap[g]? = some (.cells ((flat n st0).map bv).toArray 5 (0, 0)) := (by rw [flat_zeros, ← hL'.out]; simpa [Row, Proofs.Ytbknpfngboioeaa.zeros, bv] using hrow); have hhs := has_of_row hrow' (flat_length (st0_len n)))
    | (go_at_call 50; refine (rload_any (some ⟨g, 0, none⟩) L L w1.heap.size n (flat n st0) w1 (by rw [hL'.out]; exact hhs) (Nat.le_refl _) hL'.out H.out.1 H.out.2 (Nat.le_refl _)).mono ?_; rintro e w2 ⟨a, rfl, hrd, hb2⟩))
  go_ret2
  have s1 := hb1.size
  have h3 := hrd.congr st0 fun i hi => stOf_flat (st0_len n) hi
  refine ⟨a, rfl, h3.more ?_ fun b hb => hb.2, hb1.trans (hb2.mono hb1.size)⟩
  rintro b hb
  exact ⟨Nat.le_trans s1 hb.1, hb.2⟩

/-- Sync of the program's disk. -/
theorem sync_any {w : World} {F : Nat → Prop} {a n : Nat} {S : Dsk} (h : PD w F a n S) : Calls Try.prog 17 #[.pointer (some ⟨a, 0, none⟩)] w fun e w' => e = .returned (.int .i64 (S.ans true)) ∧ PD w' F a n S.synced ∧ Frm F w w' := by
  by_cases he : S.err true = 0
  · have hbeg : S.off = false := by
      cases ho : S.off with
      | false => rfl
      | true => simp [Dsk.err, ho] at he
    cases hp : S.pow true with
    | true =>
      have e1 : S.ans true = 10 := by simp [Dsk.ans, he, hp]
      have e2 : S.synced = (S.begun true).cut := by simp [Dsk.synced, Dsk.done, Dsk.ans, he, hp]
      rw [e1, e2]
      exact sync_pow h he hp
    | false =>
      have e1 : S.ans true = 0 := by simp [Dsk.ans, he, hp]
      have e2 : S.synced = (S.begun true).flush := by simp [Dsk.synced, Dsk.done, Dsk.ans, he, hp]
      rw [e1, e2]
      exact sync_yes h he hp
  · have e1 : S.ans true = S.err true := by simp [Dsk.ans, he]
    have e2 : S.synced = S.begun true := by simp [Dsk.synced, Dsk.done, Dsk.ans, he]
    rw [e1, e2]
    exact sync_err h he

end Go.Proofs.Ytbknpfngboioeaa
