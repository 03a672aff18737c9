/-
  The contract of extent.replace.
-/
import Derived.Test.YtbknpfngboioeaaXt2
import Derived.Test.YtbknpfngboioeaaDr6
namespace Go.Proofs.Ytbknpfngboioeaa
open Go.RowKit

theorem ans_zero {S : Dsk} (hz : S.ans true = 0) : S.err true = 0 ∧ S.pow true = false := by
  have he : S.err true = 0 := by
    unfold Dsk.ans at hz
    split at hz
    · exact hz
    · rename_i h; simpa using h
  refine ⟨he, ?_⟩
  cases hp : S.pow true with
  | false => rfl
  | true => unfold Dsk.ans at hz; rw [he, hp] at hz; simp at hz
/-- Read of the program's disk, its answer as a row. -/
theorem prow_any {w : World} {F : Nat → Prop} {a n : Nat} {S : Dsk} (h : PD w F a n S) (i : Nat) (hi : i < n) :
    Calls Try.prog 11 #[.pointer (some ⟨a, 0, none⟩), .int .i64 i] w fun e w' => ∃ v z, e = .returned (.tuple #[v, .int .i64 z]) ∧ z = S.ans true ∧ PD w' F a n (S.done true) ∧ Frm F w w' ∧
      (z = 0 → ∃ g, v = .slice (some ⟨g, 0, none⟩) 64 64 ∧ w.heap.size ≤ g ∧ w'.heap[g]? = some (.cells ((S.sec i).map bv).toArray 5 (0, 0))) := by
  have hin : inR n (i : Int) = true := by simp [inR, hi]
  by_cases hz : S.ans true = 0
  · obtain ⟨he, hp⟩ := ans_zero hz
    refine (read_yes h i hi he hp).mono ?_
    rintro e w' ⟨h1, h2, g, rfl, hg, hrow⟩
    have hdn : S.done true = S.begun true := by simp [Dsk.done, he, hp]
    exact ⟨_, 0, rfl, hz.symm, by rw [hdn]; exact h1, h2, fun _ => ⟨g, rfl, hg, hrow⟩⟩
  · have := read_any h (i : Int)
    rw [hin] at this
    refine this.mono ?_
    rintro e w' ⟨v, rfl, _, h1, h2⟩
    exact ⟨v, _, rfl, rfl, h1, h2, fun h => absurd h hz⟩
theorem pwide {w v x : World} {F : Nat → Prop} {a n : Nat} {S : Dsk} (h : PD x (fun b => F b ∨ newF v x b) a n S) (hs : w.heap.size ≤ v.heap.size) : PD x (fun b => F b ∨ newF w x b) a n S :=
  h.more (fun b hb => hb.elim .inl fun h => .inr ⟨by have := h.1; omega, h.2⟩) fun b hb => hb.elim (fun h1 => h.lt b (.inl h1)) fun h => h.2
theorem splice_map (l xs : List UInt8) (p : Nat) : splice (l.map bv) p (xs.map bv) = (splice l p xs).map bv := by simp [splice, List.map_take, List.map_drop]
theorem wany_true {w : World} {F : Nat → Prop} {a n : Nat} {S : Dsk} (h : PD w F a n S) (i : Nat) (hi : i < n) (A : Option Addr) (cap : Nat) (l : List UInt8) (hA : HasF F w A 64 (l.map bv)) :
    Calls Try.prog 14 #[.pointer (some ⟨a, 0, none⟩), .int .i64 i, .slice A 64 cap] w fun e w' => e = .returned (.int .i64 (S.ans true)) ∧ PD w' (fun b => F b ∨ newF w w' b) a n (S.wrote true i l) ∧ Frm F w w' := by
  have := write_any h (i : Int) A 64 cap l hA
  have hin : (inR n (i : Int) && decide (64 = 64)) = true := by simp [inR, hi]
  rw [hin] at this
  exact this
theorem repl_full {S : Dsk} {i p : Nat} {xs : List UInt8} (h : xs.length = 64) : S.repl i p xs = (S.wrote true i xs, S.ans true) := by simp [Dsk.repl, h]
theorem repl_err {S : Dsk} {i p : Nat} {xs : List UInt8} (h : xs.length ≠ 64) (ha : S.ans true ≠ 0) : S.repl i p xs = (S.done true, S.ans true) := by simp [Dsk.repl, h, ha]
theorem repl_part {S : Dsk} {i p : Nat} {xs : List UInt8} (h : xs.length ≠ 64) (ha : S.ans true = 0) : S.repl i p xs = ((S.done true).wrote true i (splice (S.sec i) p xs), (S.done true).ans true) := by simp [Dsk.repl, h, ha]

set_option maxRecDepth 20000 in
set_option maxHeartbeats 1600000 in
theorem repl_any {w : World} {F : Nat → Prop} {a n : Nat} {S : Dsk} (h : PD w F a n S) (i p : Nat) (hi : i < n) (A : Option Addr) (len cap : Nat) (xs : List UInt8) (hA : HasF F w A len (xs.map bv)) (h0 : 0 < len) (hp : p + len ≤ 64) :
    Calls Try.prog 67 #[.pointer (some ⟨a, 0, none⟩), .int .i64 i, .int .i64 p, .slice A len cap] w fun e w' => e = .returned (.int .i64 (S.repl i p xs).2) ∧ PD w' (fun b => F b ∨ newF w w' b) a n (S.repl i p xs).1 ∧ Frm F w w' := by
  have hxl : xs.length = len := by simpa using hA.1
  have hn4 := h.ok.n4
  by_cases h64 : len = 64
  · subst h64
    have hwr := wany_true h i hi A cap xs hA
    rw [repl_full hxl]
    obtain ⟨er, her⟩ : ∃ er, er = S.ans true := ⟨_, rfl⟩
    rw [← her] at hwr ⊢
    clear h hA hp h0 hxl her
    go_enter Try.func67, Try.ntmps67
    go_wp2_with fail
    refine hwr.mono ?_
    rintro e w' ⟨rfl, h1, h2⟩
    go_wp2_with fail
    go_ret
    exact ⟨rfl, h1, h2⟩
  · have hn64 : ((len : Int) == 64) = false := by simp; omega
    have hrd := prow_any h i hi
    have hlF : Hid (∀ b, F b → b < w.heap.size) := h.lt
    have hsec := Lib.hid (h.ok.sec hi)
    have HA := Lib.hid hA
    have HXL := Lib.hid hxl
    have hne : xs.length ≠ 64 := by omega
    by_cases ha : S.ans true = 0
    · rw [repl_part hne ha]
      rw [ha] at hrd
      obtain ⟨er, her⟩ : ∃ er, er = (S.done true).ans true := ⟨_, rfl⟩
      have HER := Lib.hid her
      rw [← her]
      have hpi : (p : Int) ≤ 64 := by omega
      have hp64 : ¬ 64 = p := by omega
      have hmn : Hid (((xs.map bv)).length = Nat.min len (64 - p)) := by show _ = _; simp only [List.length_map]; rw [hxl]; exact (Nat.min_eq_left (by omega)).symm
      have hfit : Hid (p + (xs.map bv).length ≤ ((S.sec i).map bv).length) := by show _ ≤ _; have := hsec.out; simp; omega
      have HHI := Lib.hid (And.intro hi (And.intro hp hn4))
      clear h hA hp h0 hxl her ha hne h64 hi hn4
      go_enter Try.func67, Try.ntmps67
      go_wp2_with fail
      refine hrd.mono ?_
      rintro e w3 ⟨v, zz, rfl, hzz, hp3, hf3, hgood⟩
      subst hzz
      obtain ⟨g, rfl, hg, hrow⟩ := hgood rfl
      have hA3 := HA.out.keep hf3 (G := F) fun _ h => .inl h
      have H3 := Lib.hid (And.intro hp3 hf3)
      have hgF : Hid (¬ F g) := fun hb => by have := hlF.out g hb; omega
      have hG := Lib.hid hg
      have hsrc : Hid (∀ h0 : 0 < (xs.map bv).length, ∃ ad, A = some ad ∧ ∀ j v, (xs.map bv)[j]? = some v → w3.cell? (ad.add j) = some v) := fun h0 => has_src hA3.has h0
      clear hp3 hf3 hgood hrd hA3 hg
      go_wp2_with (refine wpList_copy_frm rfl _ _ _ _ (by exact rfl) 5 tyBs szU8 _ _ _ _ _ g p (by exact rfl) (by exact rfl) ((S.sec i).map bv) 5 hrow (xs.map bv) hmn.out hsrc.out hfit.out (one_bytes _) ?_; intro w4 hrow4 hf4; go_frame)
      have hpd4 := H3.out.1.keep hf4 fun b e hb => by subst e; exact hgF.out hb
      have hA4 : HasF F w4 (some ⟨g, 0, none⟩) 64 ((splice (S.sec i) p xs).map bv) := by
        have := has_of_row (l := splice (S.sec i) p xs) (n := 64) (by rw [← splice_map]; exact hrow4.out) (by rw [splice_len (by have := hfit.out; simpa using this)]; exact hsec.out)
        exact ⟨this.1, fun h0 => by obtain ⟨b, off, e, hb, hc⟩ := this.2 h0; injection e with e; injection e with e1 e2; subst e1; exact ⟨g, off, by rw [← e2], hb, hgF.out, hc⟩⟩
      have hwr := wany_true hpd4 i HHI.out.1 _ 64 _ hA4
      rw [← HER.out] at hwr
      have H4 := Lib.hid hf4
      clear hpd4 hA4 hrow4 hf4 hrow
      refine hwr.mono ?_
      rintro e w5 ⟨rfl, hp5, hf5⟩
      have H5 := Lib.hid (And.intro hp5 hf5)
      clear hp5 hf5 hwr
      go_wp2_with fail
      go_ret
      have s3 := H3.out.2.size
      have s4 := H4.out.size
      refine ⟨rfl, pwide H5.out.1 (by omega), (H3.out.2.trans H4.out fun b e => .inr (by subst e; exact hG.out)).trans H5.out.2 fun b hb => .inl hb⟩
    · rw [repl_err hne ha]
      obtain ⟨er, her⟩ : ∃ er, er = S.ans true := ⟨_, rfl⟩
      rw [← her] at hrd ha ⊢
      have hzn : (er == 0) = false := by simpa using ha
      clear h hA hp h0 hxl her ha hne h64 hi hn4
      go_enter Try.func67, Try.ntmps67
      go_wp2_with fail
      refine hrd.mono ?_
      rintro e w3 ⟨v, zz, rfl, hzz, hp3, hf3, hgood⟩
      subst hzz
      clear hgood
      go_wp2_with fail
      go_ret
      exact ⟨rfl, hp3.wide hf3, hf3⟩

end Go.Proofs.Ytbknpfngboioeaa
