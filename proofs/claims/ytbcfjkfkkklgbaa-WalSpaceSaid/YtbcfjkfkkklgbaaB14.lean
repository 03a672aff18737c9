/-
Write, Read and Sync of both disks in one statement each.
Contracts of the reference's Image and Dirty.
The contract of the reference's Dirty.
The contract of the reference's Sync.
The contracts of the reference's Valid and Arm.
The contract of the reference's Arm.
-/
import Derived.Test.YtbcfjkfkkklgbaaB13
namespace Go.Proofs.Ytbcfjkfkkklgbaa
section
open Go.RowKit

theorem PD.wide {w w1 : World} {F : Nat → Prop} {a n : Nat} {S : Dsk} (h : PD w1 F a n S) (hf : Frm F w w1) : PD w1 (fun b => F b ∨ newF w w1 b) a n S := by
  refine h.more (fun b hb => .inl hb) ?_
  rintro b (hb | hb)
  · exact h.lt b hb
  · exact hb.2
theorem RD.wide {w w1 : World} {F : Nat → Prop} {a n : Nat} {S : Dsk} (h : RD w1 F a n S) (hf : Frm F w w1) : RD w1 (fun b => F b ∨ newF w w1 b) a n S := by
  refine h.more (fun b hb => .inl hb) ?_
  rintro b (hb | hb)
  · exact h.lt b hb
  · exact hb.2

set_option maxHeartbeats 1600000 in
theorem write_any {w : World} {F : Nat → Prop} {a n : Nat} {S : Dsk} (h : PD w F a n S) (i : Int) (A : Option Addr) (len cap : Nat) (l : List UInt8) (hA : HasF F w A len (l.map bv)) :
    Calls Try.prog 24 #[.pointer (some ⟨a, 0, none⟩), .int .i64 i, .slice A len cap] w fun e w' => e = .returned (.int .i64 (S.ans (inR n i && decide (len = 64)))) ∧ PD w' (fun b => F b ∨ newF w w' b) a n (S.wrote (inR n i && decide (len = 64)) i.toNat l) ∧ Frm F w w' := by
  by_cases he : S.err (inR n i && decide (len = 64)) = 0
  · cases hok : (inR n i && decide (len = 64)) with
    | false =>
      rw [hok] at he
      unfold Dsk.err at he
      split at he <;> simp at he
    | true =>
      rw [hok] at he
      simp only [Bool.and_eq_true, decide_eq_true_eq, inR] at hok
      obtain ⟨⟨h0, hn⟩, rfl⟩ := hok
      obtain ⟨k, rfl⟩ : ∃ k : Nat, i = k := ⟨i.toNat, by omega⟩
      have hc := write_fine h k (by omega) A cap l hA he _ rfl
      refine hc.mono ?_
      rintro e w' ⟨rfl, hp, hf⟩
      have e1 : S.ans true = if S.pow true then 10 else 0 := by simp [Dsk.ans, he]
      have e2 : S.wrote true k l = (S.done true).put k l := by simp [Dsk.wrote, he]
      rw [e1]
      refine ⟨rfl, ?_, hf⟩
      rw [Int.toNat_natCast, e2]
      exact hp
  · refine (write_err h i A len cap he).mono ?_
    rintro e w' ⟨rfl, hp, hf⟩
    have e1 : S.ans (inR n i && decide (len = 64)) = S.err (inR n i && decide (len = 64)) := by simp [Dsk.ans, he]
    have e2 : S.wrote (inR n i && decide (len = 64)) i.toNat l = S.begun (inR n i && decide (len = 64)) := by simp [Dsk.wrote, he]
    rw [e1, e2]
    exact ⟨rfl, hp.wide hf, hf⟩

set_option maxRecDepth 20000 in
set_option maxHeartbeats 3200000 in
theorem rwrite_any {w : World} {F : Nat → Prop} {a n : Nat} {S : Dsk} (h : RD w F a n S) (i : Int) (A : Option Addr) (len cap : Nat) (l : List UInt8) (hA : HasF F w A len (l.map bv)) :
    Calls Try.prog 26 #[.pointer (some ⟨a, 0, none⟩), .int .i64 i, .slice A len cap] w fun e w' => e = .returned (.int .i64 (S.ans (inR n i && decide (len = 64)))) ∧ RD w' (fun b => F b ∨ newF w w' b) a n (S.wrote (inR n i && decide (len = 64)) i.toNat l) ∧ Frm F w w' := by
  cases ho : S.off with
  | true =>
    have h1 : ∀ ok, S.ans ok = 10 := fun ok => by simp [Dsk.ans, Dsk.err, ho]
    have h2 : ∀ ok, S.wrote ok i.toNat l = S := fun ok => by simp [Dsk.wrote, Dsk.err, Dsk.begun, ho]
    rw [h1, h2]
    have hx := h
    obtain ⟨r1, r2, c1, c2, A0, m, c, V1, V2, hx⟩ := hx
    have c4 := hx.e4
    rw [ho] at c4
    have H := Lib.hid (h.wide (Frm.refl F w))
    clear hx h ho h1 h2 hA
    go_enter Try.func26, Try.ntmps26
    go_wp2
    go_ret
    exact ⟨rfl, H.out, Frm.refl _ _⟩
  | false =>
    have hx := h
    obtain ⟨r1, r2, c1, c2, A0, m, c, V1, V2, hx⟩ := hx
    have c4 := hx.e4
    rw [ho] at c4
    have c0 := hx.e0
    have hn4 := hx.ok.n4
    have hn4i : (n : Int) ≤ 4096 := by omega
    have H := Lib.hid h
    clear hx h
    by_cases hi0 : i < 0
    · have hir : inR n i = false := by simp [inR]; omega
      rw [hir, Bool.false_and]
      have h1 : S.ans false = 2 := by simp [Dsk.ans, Dsk.err, ho]
      have h2 : S.wrote false i.toNat l = S := by simp [Dsk.wrote, Dsk.err, Dsk.begun, ho]
      rw [h1, h2]
      have HW := Lib.hid (H.out.wide (Frm.refl F w))
      have hi0' : decide (i < 0) = true := by simpa using hi0
      clear ho h1 h2 hi0 hA H
      go_enter Try.func26, Try.ntmps26
      go_wp2
      go_ret
      exact ⟨rfl, HW.out, Frm.refl _ _⟩
    · have hi0' : decide (i < 0) = false := by simpa using hi0
      by_cases hin : (n : Int) ≤ i
      · have hir : inR n i = false := by simp [inR]; omega
        rw [hir, Bool.false_and]
        have h1 : S.ans false = 2 := by simp [Dsk.ans, Dsk.err, ho]
        have h2 : S.wrote false i.toNat l = S := by simp [Dsk.wrote, Dsk.err, Dsk.begun, ho]
        rw [h1, h2]
        have HW := Lib.hid (H.out.wide (Frm.refl F w))
        have hin' : decide ((n : Int) ≤ i) = true := by simpa using hin
        clear ho h1 h2 hi0 hin hA H
        go_enter Try.func26, Try.ntmps26
        go_wp2
        go_ret
        exact ⟨rfl, HW.out, Frm.refl _ _⟩
      · have hin' : decide ((n : Int) ≤ i) = false := by simpa using hin
        obtain ⟨k, rfl⟩ : ∃ k : Nat, i = k := ⟨i.toNat, by omega⟩
        have hkn : k < n := by omega
        have hinr : inR n (k : Int) = true := by simp [inR, hkn]
        rw [hinr, Bool.true_and, Int.toNat_natCast]
        by_cases hl : len = 64
        · subst hl
          have hdt : decide ((64 : Nat) = 64) = true := by decide
          rw [hdt]
          by_cases hk1 : S.kind = 1
          · have h1 : S.ans true = 9 := by simp [Dsk.ans, Dsk.err, ho, hk1]
            have h2 : S.wrote true k l = S.tick := by simp [Dsk.wrote, Dsk.err, Dsk.begun, ho, hk1]
            rw [h1, h2]
            have hft := rfault_any H.out
            rw [hk1] at hft
            clear ho h1 h2 hi0 hin hk1 hA
            go_enter Try.func26, Try.ntmps26
            go_wp2_with (go_at_call 73; refine hft.mono ?_; rintro e w1 ⟨rfl, hrd, hf⟩)
            go_ret
            exact ⟨rfl, hrd.wide hf, hf⟩
          · have hk1' : (S.kind == 1) = false := by simpa using hk1
            have he : S.err true = 0 := by simp [Dsk.err, ho, hk1]
            have hpw : S.pow true = (S.kind == 2) := by simp [Dsk.pow, ho]; rfl
            have hc := rwrite_fine H.out k hkn A cap l hA ho _ rfl _ hk1' rfl
            refine hc.mono ?_
            rintro e w' ⟨rfl, hp, hf⟩
            have e1 : S.ans true = if (S.kind == 2) then 10 else 0 := by simp [Dsk.ans, he, hpw]
            have e2 : S.wrote true k l = (if (S.kind == 2) then S.tick.cut else S.tick).put k l := by simp [Dsk.wrote, Dsk.done, Dsk.begun, he, hpw, ho]
            rw [e1, e2]
            exact ⟨rfl, hp, hf⟩
        · have hdt : decide (len = 64) = false := by simpa using hl
          rw [hdt]
          have h1 : S.ans false = 2 := by simp [Dsk.ans, Dsk.err, ho]
          have h2 : S.wrote false k l = S := by simp [Dsk.wrote, Dsk.err, Dsk.begun, ho]
          rw [h1, h2]
          have HW := Lib.hid (H.out.wide (Frm.refl F w))
          have hl' : ((len : Int) != 64) = true := by simp; omega
          clear ho h1 h2 hi0 hin hA H hl hdt
          go_enter Try.func26, Try.ntmps26
          go_wp2
          go_ret
          exact ⟨rfl, HW.out, Frm.refl _ _⟩
end

section
open Go.RowKit

theorem L_next {k L : Nat} (h : L = 64 * k) : L + 64 = 64 * (k + 1) := by omega
theorem L_small {k n L : Nat} (h : L = 64 * k) (hk : k < n) (hn : n ≤ 4096) : L + 64 ≤ maxLen ∧ (L + 64) * 1 ≤ 140737488355328 := by
  unfold maxLen
  omega
set_option maxRecDepth 20000 in
set_option maxHeartbeats 1600000 in
theorem rimage_any {w : World} {F : Nat → Prop} {a n : Nat} {S : Dsk} (h : RD w F a n S) : Calls Try.prog 52 #[.pointer (some ⟨a, 0, none⟩)] w fun e w' =>
    ∃ v L, e = .returned v ∧ L = 64 * n ∧ w'.ownsRow w.heap.size 5 1 v L ((flat n S.st).map bv) ∧ Below w.heap.size w w' := by
  have HH := Lib.hid h
  have hn4 := Lib.hid h.ok.n4
  clear h
  obtain ⟨i5, hi5, hz0, hz1, hz2⟩ := info_parts infoU8
  go_enter Try.func52, Try.ntmps52
  go_wp2
  go_loopw [3, 4] (fun ov iv wr => ∃ (k L : Nat), k ≤ n ∧ Hid (L = 64 * k) ∧ iv = .int .i64 k ∧ wr.ownsRow w.heap.size 5 1 ov L ((flat k S.st).map bv) ∧ Hid (Below w.heap.size w wr)) (fun _ iv _ => ((n : Int) - RowKit.intOf iv).toNat)
  case atStart => exact ⟨0, 0, Nat.zero_le _, rfl, rfl, World.ownsRow_nil _ _ _ _, Below.refl _ _⟩
  case round =>
    obtain ⟨k, L, hk, hL, rfl, hown, HR⟩ := hrel
    have hR1 := HH.out.below HR.out
    have hsec := rsectors_any hR1
    by_cases hkn : k < n
    · have hd : decide ((k : Int) < (n : Int)) = true := by simpa using hkn
      obtain ⟨r1, r2, c1, c2, A, m, c, V1, V2, hx⟩ := hR1
      have k0 := hx.e0
      have d1 := hx.row1.cell hkn
      obtain ⟨g, cg, hV, hFg, hog⟩ := hx.v1 k hkn
      rw [hV] at d1
      have hhs := hog.has
      have hkni : (k : Int) < (n : Int) := by omega
      have hk4 : (k : Int) ≤ 4096 := by have := hn4.out; omega
      have hLs := Lib.hid (L_small hL.out hkn hn4.out)
      have hsn := Lib.hid (flat_succ k S.st)
      have hkw : wrap64 ((k : Int) + 1) = (k : Int) + 1 := by unfold wrap64; omega
      clear hx hV hFg hog hk
      go_wp2_with (first
        | (go_at_call 80; refine hsec.mono ?_; rintro e w1 ⟨rfl, rfl⟩)
        | (at_builtin; refine wpList_app_has _ rfl _ _ 34 (by exact rfl) w.heap.size 5 i5 (.int .u8 0) 1 tyBs hi5 hz0 hz1 hz2 rfl _ L _ (by exact rfl) hown (some ⟨g, 0, none⟩) 64 cg _ _ (by exact rfl) (fun e => by cases e) hhs (one_bytes _) hLs.out.1 hLs.out.2 HR.out (Nat.le_refl _) ?_; intro v3 w3 hown3 hb3 _))
      go_roundw
      case rel => exact ⟨k + 1, L + 64, by omega, L_next hL.out, by go_num, by rw [hsn.out, List.map_append]; exact hown3, hb3⟩
      case measure => simp [RowKit.intOf]; omega
    · have hd : decide ((k : Int) < (n : Int)) = false := by simpa using hkn
      have hkn' : k = n := by omega
      subst hkn'
      go_wp2_with (go_at_call 80; refine hsec.mono ?_; rintro e w1 ⟨rfl, rfl⟩)
      go_ret
      exact ⟨_, L, rfl, hL.out, hown, HR.out⟩
end

section
open Go.RowKit

theorem tyIntsR : Try.prog.underlying 70 = some (.slice 3) := by kernel_rfl
theorem infoIntR : (Try.prog.info? 3).map (fun x => (x.size, x.bytes, x.zero)) = some (1, 8, some (.int .i64 0)) := by kernel_rfl
theorem info_parts8 {P : Program} {t : TypeId} {z : Value} (h : (P.info? t).map (fun x => (x.size, x.bytes, x.zero)) = some (1, 8, some z)) : ∃ i, P.info? t = some i ∧ i.zero = some z ∧ i.size = 1 ∧ i.bytes = 8 := by
  cases hi : P.info? t with
  | none => simp [hi] at h
  | some i =>
    simp [hi] at h
    exact ⟨i, rfl, h.2.2, h.1, h.2.1⟩
theorem dirtyZ_zero (ca : Nat → Option (List UInt8)) : dirtyZ 0 ca = [] := rfl
theorem dirtyZ_none {k : Nat} {ca : Nat → Option (List UInt8)} (h : ca k = none) : dirtyZ (k + 1) ca = dirtyZ k ca := by
  simp [dirtyZ, dirty, List.range_succ, h]
theorem dirtyZ_some {k : Nat} {ca : Nat → Option (List UInt8)} {xs : List UInt8} (h : ca k = some xs) : dirtyZ (k + 1) ca = dirtyZ k ca ++ [(k : Int)] := by
  simp [dirtyZ, dirty, List.range_succ, h]
theorem dirtyZ_len (k : Nat) (ca : Nat → Option (List UInt8)) : (dirtyZ k ca).length ≤ k := by
  simp only [dirtyZ, dirty, List.length_map]
  exact Nat.le_trans (List.length_filter_le _ _) (by simp)
theorem M_small {M k n : Nat} (h : M ≤ k) (hk : k < n) (hn : n ≤ 4096) : M + 1 ≤ maxLen ∧ (M + 1) * 8 ≤ 140737488355328 := by
  unfold maxLen
  omega
set_option maxRecDepth 20000 in
set_option maxHeartbeats 1600000 in
theorem rdirty_any {w : World} {F : Nat → Prop} {a n : Nat} {S : Dsk} (h : RD w F a n S) : Calls Try.prog 50 #[.pointer (some ⟨a, 0, none⟩)] w fun e w' => ∃ v, e = .returned v ∧
    w'.ownsRow w.heap.size 3 1 v (dirtyZ n S.ca).length ((dirtyZ n S.ca).map (Value.int .i64)) ∧ Below w.heap.size w w' := by
  have HH := Lib.hid h
  have hn4 := Lib.hid h.ok.n4
  clear h
  obtain ⟨i6, hi6, hz0, hz1, hz2⟩ := info_parts8 infoIntR
  go_enter Try.func50, Try.ntmps50
  go_wp2
  go_loopw [3, 4] (fun ov iv wr => ∃ (k M : Nat), k ≤ n ∧ Hid (M = (dirtyZ k S.ca).length) ∧ iv = .int .i64 k ∧ wr.ownsRow w.heap.size 3 1 ov M ((dirtyZ k S.ca).map (Value.int .i64)) ∧ Hid (Below w.heap.size w wr)) (fun _ iv _ => ((n : Int) - RowKit.intOf iv).toNat)
  case atStart => exact ⟨0, 0, Nat.zero_le _, rfl, rfl, World.ownsRow_nil _ _ _ _, Below.refl _ _⟩
  case round =>
    obtain ⟨k, M, hk, hM, rfl, hown, HR⟩ := hrel
    have hR1 := HH.out.below HR.out
    have hsec := rsectors_any hR1
    by_cases hkn : k < n
    · have hd : decide ((k : Int) < (n : Int)) = true := by simpa using hkn
      obtain ⟨r1, r2, c1, c2, A, m, c, V1, V2, hx⟩ := hR1
      have k1 := hx.e1
      have d2 := hx.row2.cell hkn
      have hv2 := hx.v2 k hkn
      have hkni : (k : Int) < (n : Int) := by omega
      have hk4 : (k : Int) ≤ 4096 := by have := hn4.out; omega
      have hMs := Lib.hid (M_small (M := M) (k := k) (by rw [hM.out]; exact dirtyZ_len k S.ca) hkn hn4.out)
      have hkw : wrap64 ((k : Int) + 1) = (k : Int) + 1 := by unfold wrap64; omega
      cases hc : S.ca k with
      | none =>
        rw [hc] at hv2
        have hv2' : V2 k = .slice none 0 0 := hv2
        rw [hv2'] at d2
        have q0 : ∀ W : World, (binOp .neq 34 (.slice none 0 0) (.slice none 0 0)).run Try.prog W = .ok (.bool false) W := fun W => run_neq_slice_nil_any W _ _ none 0 0 0 0 tyBs
        have hdn := Lib.hid (dirtyZ_none hc)
        clear hx hv2 hv2' hc hk
        go_wp2_with (go_at_call 80; refine hsec.mono ?_; rintro e w1 ⟨rfl, rfl⟩)
        go_roundw
        case rel => exact ⟨k + 1, M, by omega, by rw [hdn.out]; exact hM, by go_num, by rw [hdn.out]; exact hown, HR⟩
        case measure => simp [RowKit.intOf]; omega
      | some xs =>
        rw [hc] at hv2
        obtain ⟨g, cg, ev, hF, ho⟩ := (show Sl _ F (V2 k) xs from hv2)
        rw [ev] at d2
        have q0 : ∀ W : World, (binOp .neq 34 (.slice (some ⟨g, 0, none⟩) 64 cg) (.slice none 0 0)).run Try.prog W = .ok (.bool true) W := fun W => run_neq_slice_nil_any W _ _ (some ⟨g, 0, none⟩) 64 cg 0 0 tyBs
        have hdn := Lib.hid (dirtyZ_some hc)
        have hml : Hid (M + 1 = (dirtyZ (k + 1) S.ca).length) := by show _ = _; rw [hdn.out, hM.out]; simp
        clear hx hv2 hc hk ev hF ho
        go_wp2_with (first
          | (go_at_call 80; refine hsec.mono ?_; rintro e w1 ⟨rfl, rfl⟩)
          | (at_builtin; refine wpList_app_one _ rfl _ _ 70 rfl w.heap.size 3 i6 (.int .i64 0) 8 tyIntsR hi6 hz0 hz1 hz2 rfl _ (by exact rfl) _ _ _ (by exact rfl) hown (by exact rfl) hMs.out.1 hMs.out.2 HR.out (Nat.le_refl _) ?_; intro v' w' hown' hb' _))
        go_roundw
        case rel => exact ⟨k + 1, M + 1, by omega, hml, by go_num, by rw [hdn.out, List.map_append]; exact hown', hb'⟩
        case measure => simp [RowKit.intOf]; omega
    · have hd : decide ((k : Int) < (n : Int)) = false := by simpa using hkn
      have hkn' : k = n := by omega
      subst hkn'
      go_wp2_with (go_at_call 80; refine hsec.mono ?_; rintro e w1 ⟨rfl, rfl⟩)
      go_ret
      exact ⟨_, rfl, by rw [← hM.out]; exact hown, HR.out⟩
end

section
open Go.RowKit

/-- The disk in the middle of a Sync: the first k sectors are stored. -/
def midS (S : Dsk) (k : Nat) : Dsk := { S with st := fun i => if i < k then S.sec i else S.st i, ca := fun i => if i < k then none else S.ca i }
theorem midS_zero (S : Dsk) : midS S 0 = S := by simp [midS]
theorem midS_end {S : Dsk} {n : Nat} (h : S.Ok n) : midS S n = S.flush := by
  have h1 : ∀ i, ¬ i < n → S.ca i = none := fun i hi => by
    cases hc : S.ca i with
    | none => rfl
    | some xs => exact absurd (h.ca i xs hc).1 hi
  unfold midS Dsk.flush
  congr 1
  · funext i
    split
    · rfl
    · rename_i hi
      simp [Dsk.sec, h1 i hi]
  · funext i
    split
    · rfl
    · rename_i hi
      exact h1 i hi
theorem midS_none {S : Dsk} {k : Nat} (h : S.ca k = none) : midS S (k + 1) = midS S k := by
  unfold midS
  congr 1
  · funext i
    by_cases hi : i < k
    · rw [if_pos (by omega), if_pos hi]
    · rw [if_neg hi]
      split
      · obtain rfl : i = k := by omega
        simp [Dsk.sec, h]
      · rfl
  · funext i
    by_cases hi : i < k
    · rw [if_pos (by omega), if_pos hi]
    · rw [if_neg hi]
      split
      · obtain rfl : i = k := by omega
        exact h.symm
      · rfl
theorem midS_some {S : Dsk} {k : Nat} {xs : List UInt8} (h : S.ca k = some xs) : midS S (k + 1) = { { midS S k with st := upd (midS S k).st k xs } with ca := upd (midS S k).ca k none } := by
  unfold midS
  congr 1
  · funext i
    by_cases hik : i = k
    · subst hik; simp [upd, Dsk.sec, h]
    · simp only [upd, if_neg hik]
      by_cases hi : i < k
      · rw [if_pos (by omega), if_pos hi]
      · rw [if_neg (by omega), if_neg hi]
  · funext i
    by_cases hik : i = k
    · subst hik; simp [upd]
    · simp only [upd, if_neg hik]
      by_cases hi : i < k
      · rw [if_pos (by omega), if_pos hi]
      · rw [if_neg (by omega), if_neg hi]
theorem midS_ca (S : Dsk) (k : Nat) : (midS S k).ca k = S.ca k := by simp [midS]
/-- A sector that was in the cache is stored. -/
theorem sync_mid {D : World} {F : Nat → Prop} {a n k : Nat} {T : Dsk} {r1 r2 c1 c2 m c : Nat} {A : Option Addr} {V1 V2 : Nat → Value} (h : RDx D F a n (midS T k) r1 r2 c1 c2 A m c V1 V2) (hk : k < n) {xs : List UInt8} (hc : T.ca k = some xs) (hx : xs.length = 64) :
    RDx (D.setCell ⟨r1, k, none⟩ (V2 k)) F a n { midS T k with st := upd (midS T k).st k xs } r1 r2 c1 c2 A m c (upd V1 k (V2 k)) V2 ∧ Frm F D (D.setCell ⟨r1, k, none⟩ (V2 k)) := by
  have hv := h.v2 k hk
  rw [midS_ca, hc] at hv
  exact ⟨h.set1 hk (v := V2 k) (xs := xs) hv hx, (Frm.refl F D).setCell (p := ⟨r1, k, none⟩) (.inl h.f1) _⟩
theorem sync_mid2 {D : World} {F : Nat → Prop} {a n k : Nat} {T : Dsk} {r1 r2 c1 c2 m c : Nat} {A : Option Addr} {V1 V2 : Nat → Value} {xs : List UInt8} (h : RDx D F a n { midS T k with st := upd (midS T k).st k xs } r1 r2 c1 c2 A m c V1 V2) (hk : k < n) (hc : T.ca k = some xs) :
    RD (D.setCell ⟨r2, k, none⟩ (.slice none 0 0)) F a n (midS T (k + 1)) ∧ Frm F D (D.setCell ⟨r2, k, none⟩ (.slice none 0 0)) := by
  rw [midS_some hc]
  exact ⟨⟨_, _, _, _, _, _, _, _, _, h.set2 hk (v := .slice none 0 0) (o := none) rfl (fun _ e => by cases e)⟩, (Frm.refl F D).setCell (p := ⟨r2, k, none⟩) (.inl h.f2) _⟩

/-- A store of one cell, the world behind it said as it is. -/
theorem wpList_store_set {P : Program} {ops : Array Oper} {rest : List Oper} {o : Oper} {a : Act} {w : World} {Q : Exit → Act → World → Prop} (hg : o.guard = none) (hd : o.dst = none) (t : TypeId) (p x : Operand) (hop : o.op = .store t p x) (q : Addr) (hp : a.eval p = .pointer (some q)) (v : Value) (hx : a.eval x = v) (hv : v.oneCell' = true)
    (hi : (P.info? t).map (·.size) = some 1) (c : Value) (hcell : w.cell? q = some c) (hfro : w.frozen? q = false)
    (h : wpList P ops Q rest a (w.setCell q v)) : wpList P ops Q (o :: rest) a w := by
  refine wpList_plain hg fun K hK => ?_
  have hst : (store q v).run P w = .ok () (w.setCell q v) := by
    rw [run_store P w _ v _ hv, hcell]
    simp [hfro]
  have hc : v.cells = #[v] := by cases v <;> first | rfl | cases hv
  have hadd : q.add 0 = q := by unfold Addr.add; simp
  have hl : (storeVar t q v).run P w = .ok () (w.setCell q v) := by
    cases hq : P.info? t with
    | none => simp [hq] at hi
    | some i =>
      have hs : i.size = 1 := by simp [hq] at hi; omega
      simp [storeVar, sizeOf, typeInfo, hq, hc, hs, storeCells, hadd, hst]
  have : wpList P ops Q rest (a.put o.dst undef) (w.setCell q v) := by
    rw [hd]
    exact h
  unfold Oper.wp
  simp only [execOp, hop, hp, hx, Instr.storeAt, Instr.sureAddr, Sem.run_bind, Sem.run_pure, Result.andThen, hl]
  exact hK _ _ this

set_option maxRecDepth 20000 in
set_option maxHeartbeats 3200000 in
theorem rsync_any {w : World} {F : Nat → Prop} {a n : Nat} {S : Dsk} (h : RD w F a n S) : Calls Try.prog 28 #[.pointer (some ⟨a, 0, none⟩)] w fun e w' => e = .returned (.int .i64 (S.ans true)) ∧ RD w' F a n S.synced ∧ Frm F w w' := by
  cases ho : S.off with
  | true =>
    have h1 : S.ans true = 10 := by simp [Dsk.ans, Dsk.err, ho]
    have h2 : S.synced = S := by simp [Dsk.synced, Dsk.done, Dsk.ans, Dsk.err, Dsk.begun, ho]
    rw [h1, h2]
    have hx := h
    obtain ⟨r1, r2, c1, c2, A0, m, c, V1, V2, hx⟩ := hx
    have c4 := hx.e4
    rw [ho] at c4
    have H := Lib.hid h
    clear hx h ho h1 h2
    go_enter Try.func28, Try.ntmps28
    go_wp2
    go_ret
    exact ⟨rfl, H.out, Frm.refl _ _⟩
  | false =>
    have hx := h
    obtain ⟨r1, r2, c1, c2, A0, m, c, V1, V2, hx⟩ := hx
    have c4 := hx.e4
    rw [ho] at c4
    have hft := rfault_any h
    have hn4 := Lib.hid h.ok.n4
    have hokT := Lib.hid h.ok.tick
    clear hx h
    by_cases hk1 : S.kind = 1
    · have h1 : S.ans true = 9 := by simp [Dsk.ans, Dsk.err, ho, hk1]
      have h2 : S.synced = S.tick := by simp [Dsk.synced, Dsk.done, Dsk.ans, Dsk.err, Dsk.begun, ho, hk1]
      rw [h1, h2]
      rw [hk1] at hft
      clear ho h1 h2 hk1
      go_enter Try.func28, Try.ntmps28
      go_wp2_with (go_at_call 73; refine hft.mono ?_; rintro e w1 ⟨rfl, hrd, hf⟩)
      go_ret
      exact ⟨rfl, hrd, hf⟩
    · by_cases hk2 : S.kind = 2
      · have h1 : S.ans true = 10 := by simp [Dsk.ans, Dsk.err, Dsk.pow, ho, hk2]
        have h2 : S.synced = S.tick.cut := by simp [Dsk.synced, Dsk.done, Dsk.ans, Dsk.err, Dsk.pow, Dsk.begun, ho, hk2]
        rw [h1, h2]
        rw [hk2] at hft
        clear ho h1 h2 hk1 hk2
        go_enter Try.func28, Try.ntmps28
        go_wp2_with (go_at_call 73; refine hft.mono ?_; rintro e w1 ⟨rfl, hrd, hf⟩; obtain ⟨q1, q2, d1, d2, A', m', c', U1, U2, hy⟩ := hrd; have b4 := hy.e4; have g4 := hy.fr 4; have HY := Lib.hid hy; clear hy)
        go_ret
        obtain ⟨hcut, hfc⟩ := rcut_cell HY.out
        exact ⟨rfl, ⟨_, _, _, _, _, _, _, _, _, hcut⟩, hf.trans hfc fun b e => .inl (e ▸ HY.out.fa)⟩
      · have h1 : S.ans true = 0 := by simp [Dsk.ans, Dsk.err, Dsk.pow, ho, hk1, hk2]
        have h2 : S.synced = S.tick.flush := by simp [Dsk.synced, Dsk.done, Dsk.ans, Dsk.err, Dsk.pow, Dsk.begun, ho, hk1, hk2]
        rw [h1, h2]
        have hk1' : (S.kind == 1) = false := by simpa using hk1
        have hk2' : (S.kind == 2) = false := by simpa using hk2
        clear ho h1 h2 hk1 hk2
        generalize S.kind = kd at hft hk1' hk2'
        generalize S.tick = T at hft hokT ⊢
        go_enter Try.func28, Try.ntmps28
        go_wp2_with (go_at_call 73; refine hft.mono ?_; rintro e w1 ⟨rfl, hrd, hf⟩)
        go_loopw [3] (fun iv wr => ∃ (k : Nat), k ≤ n ∧ iv = .int .i64 k ∧ Hid (RD wr F a n (midS T k)) ∧ Hid (Frm F w wr)) (fun iv _ => ((n : Int) - RowKit.intOf iv).toNat)
        case atStart => exact ⟨0, Nat.zero_le _, rfl, by rw [midS_zero]; exact hrd, hf⟩
        case round =>
          obtain ⟨k, hk, rfl, HR, HF⟩ := hrel
          have hR1 := HR.out
          obtain ⟨r1, r2, c1, c2, A, m, c, V1, V2, hx⟩ := hR1
          have k0 := hx.e0
          have k1 := hx.e1
          have HX := Lib.hid hx
          by_cases hkn : k < n
          · have hd : decide ((k : Int) < (n : Int)) = true := by simpa using hkn
            have d1 := hx.row1.cell hkn
            have d2 := hx.row2.cell hkn
            have g1 := hx.row1.fr k
            have hv2 := hx.v2 k hkn
            rw [midS_ca] at hv2
            have hkni : (k : Int) < (n : Int) := by omega
            have hk4 : (k : Int) ≤ 4096 := by have := hn4.out; omega
            have hkw : wrap64 ((k : Int) + 1) = (k : Int) + 1 := by unfold wrap64; omega
            cases hc : T.ca k with
            | none =>
              rw [hc] at hv2
              have hv2' : V2 k = .slice none 0 0 := hv2
              rw [hv2'] at d2
              have q0 : ∀ W : World, (binOp .neq 34 (.slice none 0 0) (.slice none 0 0)).run Try.prog W = .ok (.bool false) W := fun W => run_neq_slice_nil_any W _ _ none 0 0 0 0 tyBs
              have hdn := Lib.hid (midS_none hc)
              clear hx hv2 hv2' hc hk d1 g1 k0
              go_wp2
              go_roundw
              case rel => exact ⟨k + 1, by omega, by go_num, by rw [hdn.out]; exact HR, HF⟩
              case measure => simp [RowKit.intOf]; omega
            | some xs =>
              rw [hc] at hv2
              obtain ⟨g, cg, ev, hFg, hog⟩ := (show Sl _ F (V2 k) xs from hv2)
              have hev := Lib.hid ev
              rw [ev] at d2
              have q0 : ∀ W : World, (binOp .neq 34 (.slice (some ⟨g, 0, none⟩) 64 cg) (.slice none 0 0)).run Try.prog W = .ok (.bool true) W := fun W => run_neq_slice_nil_any W _ _ (some ⟨g, 0, none⟩) 64 cg 0 0 tyBs
              have HC := Lib.hid hc
              have hx64 := Lib.hid (hokT.out.ca k xs hc).2
              clear hx hv2 hc hk ev hFg hog
              go_wp2
              go_still_tail 13, (by kernel_rfl)
              change wpList _ _ _ _ _ (World.drew _)
              have hx2 := HX.out.keep (G := fun _ => False) (Frm.of_below ((Below.refl wr.heap.size wr).drew)) fun _ h => h.elim
              have HF2 := Lib.hid (HF.out.trans' (Frm.of_below ((Below.refl wr.heap.size wr).drew)))
              generalize World.drew wr = D at *
              have e1 := hx2.row1.cell hkn
              have e2 := hx2.row1.fr k
              obtain ⟨hz, hfz⟩ := sync_mid hx2 hkn HC.out hx64.out
              rw [hev.out] at hz hfz
              clear k0 k1 d1 d2 g1
              refine wpList_store_set rfl rfl _ _ _ rfl ⟨r1, k, none⟩ (by exact rfl) (.slice (some ⟨g, 0, none⟩) 64 cg) (by exact rfl) rfl (by kernel_rfl) _ e1 e2 ?_
              clear e1 e2 hx2
              generalize D.setCell ⟨r1, k, none⟩ (.slice (some ⟨g, 0, none⟩) 64 cg) = D2 at *
              have k1 := hz.e1
              have d2 := hz.row2.cell hkn
              have g2 := hz.row2.fr k
              obtain ⟨hend, hfe⟩ := sync_mid2 hz hkn HC.out
              have HEND := Lib.hid hend
              have HFE := Lib.hid ((HF2.out.trans' hfz).trans' hfe)
              clear hz hend hfe hfz
              go_wp2
              go_roundw
              case rel => exact ⟨k + 1, by omega, by go_num, HEND, HFE⟩
              case measure => simp [RowKit.intOf]; omega
          · have hd : decide ((k : Int) < (n : Int)) = false := by simpa using hkn
            obtain rfl : k = n := by omega
            clear hx
            go_wp2
            go_ret
            exact ⟨rfl, by rw [← midS_end hokT.out]; exact HR.out, HF.out⟩
end

section
open Go.RowKit

theorem badFs_step {ps : List (Int × Int)} {k : Nat} (h : badFs ps = badFs (ps.drop k)) (hk : k < ps.length) : badFs ps = (badF ps[k] || badFs (ps.drop (k + 1))) := by
  rw [h, List.drop_eq_getElem_cons hk]
  rfl
set_option maxRecDepth 20000 in
set_option maxHeartbeats 3200000 in
theorem rvalid_any {F : Nat → Prop} (A : Option Addr) (m c : Nat) (ps : List (Int × Int)) (w : World) (hP : PairsF F w A m ps) (hm : m ≤ 1000000) :
    Calls Try.prog 79 #[.slice A m c] w fun e w' => e = .returned (.bool (armOk ps)) ∧ w = w' := by
  have HP := Lib.hid hP
  have HM := Lib.hid hm
  clear hP hm
  go_enter Try.func79, Try.ntmps79
  go_wp2
  go_loop [3] (fun i => ∃ k : Nat, k ≤ m ∧ i = .int .i64 k ∧ Hid (badFs ps = badFs (ps.drop k))) (fun i => m - (RowKit.intOf i).toNat)
  case atStart => exact ⟨0, Nat.zero_le _, rfl, by show _ = _; simp⟩
  case round =>
    obtain ⟨k, hk, rfl, HR⟩ := hrel
    have hkb : (k : Int) ≤ 1000000 := by have := HM.out; omega
    have hkw : wrap64 ((k : Int) + 1) = (k : Int) + 1 := by unfold wrap64; omega
    by_cases hlt : k < m
    · obtain ⟨b, off, rfl, hbw, _, hc⟩ := HP.out.2.2 (by omega)
      have hkf : k < ps.length := by rw [HP.out.1]; exact hlt
      obtain ⟨d1, d2⟩ := hc k hkf
      have hstep := Lib.hid (badFs_step HR.out hkf)
      have hd : decide ((k : Int) < (m : Int)) = true := by simpa using hlt
      have hlti : (k : Int) < (m : Int) := by omega
      generalize ps[k] = p at d1 d2 hstep
      obtain ⟨x, y⟩ := p
      simp only at d1 d2
      clear hc hkf hk
      by_cases h1 : x < 0
      · have h1' : decide (x < 0) = true := by simpa using h1
        have hr : Hid (armOk ps = false) := by show _ = _; unfold armOk; rw [hstep.out]; simp [badF, h1]
        clear h1
        go_wp2
        go_ret
        exact ⟨ret_bool (by rw [hr.out]), rfl⟩
      · have h1' : decide (x < 0) = false := by simpa using h1
        by_cases h2 : y = 1
        · have h2' : (y != 1) = false := by simp [h2]
          have hr : Hid (badFs ps = badFs (ps.drop (k + 1))) := by show _ = _; rw [hstep.out]; simp [badF, h1', h2]
          clear h1 h2
          go_wp2
          go_round
          case rel => exact ⟨k + 1, by omega, by go_num, hr⟩
          case measure => simp [RowKit.intOf]; omega
        · have h2' : (y != 1) = true := by simpa using h2
          by_cases h3 : y = 2
          · have h3' : (y != 2) = false := by simp [h3]
            have hr : Hid (badFs ps = badFs (ps.drop (k + 1))) := by show _ = _; rw [hstep.out]; simp [badF, h1', h3]
            clear h1 h2 h3
            go_wp2
            go_round
            case rel => exact ⟨k + 1, by omega, by go_num, hr⟩
            case measure => simp [RowKit.intOf]; omega
          · have h3' : (y != 2) = true := by simpa using h3
            have hr : Hid (armOk ps = false) := by show _ = _; unfold armOk; rw [hstep.out]; simp [badF, h1', h2, h3]
            clear h1 h2 h3
            go_wp2
            go_ret
            exact ⟨ret_bool (by rw [hr.out]), rfl⟩
    · obtain rfl : k = m := by omega
      have hd : decide ((k : Int) < (k : Int)) = false := by simp
      have hr : Hid (armOk ps = decide ((k : Int) ≤ 64)) := by
        show _ = _
        unfold armOk
        rw [HR.out, List.drop_of_length_le (by rw [HP.out.1]; exact Nat.le_refl _), HP.out.1]
        by_cases h64 : k ≤ 64
        · simp [badFs, h64]; omega
        · simp [badFs, h64]; omega
      go_wp2
      go_ret
      exact ⟨ret_bool (by rw [hr.out]), rfl⟩
end

section
open Go.RowKit

theorem RDx.frz {w : World} {F : Nat → Prop} {a n : Nat} {S : Dsk} {r1 r2 c1 c2 m c : Nat} {A : Option Addr} {V1 V2 : Nat → Value} (h : RDx w F a n S r1 r2 c1 c2 A m c V1 V2) : w.heap[a]? = some (.cells #[.slice (some ⟨r1, 0, none⟩) n c1, .slice (some ⟨r2, 0, none⟩) n c2, .slice A m c, .int .i64 S.cnt, .bool S.off] 101 (0, 0)) := h.cells
/-- Other faults, and the count from 0 again. -/
theorem RDx.arm {w w' : World} {F : Nat → Prop} {a n : Nat} {S : Dsk} {r1 r2 c1 c2 m c m' c' : Nat} {A A' : Option Addr} {V1 V2 : Nat → Value} (h : RDx w F a n S r1 r2 c1 c2 A m c V1 V2)
    (hf : Frm (fun b => b = a) w w') (fs : List (Int × Int)) (hfl : FltAt w F A' m' fs) (hm : m' ≤ 64)
    (hc : w'.heap[a]? = some (.cells #[.slice (some ⟨r1, 0, none⟩) n c1, .slice (some ⟨r2, 0, none⟩) n c2, .slice A' m' c', .int .i64 0, .bool S.off] 101 (0, 0))) : RD w' F a n (S.armed fs) := by
  have hk : ∀ (b : Nat) (cs : Array Value) (t : TypeId) (f : Nat × Nat), t ≠ 101 → w.heap[b]? = some (.cells cs t f) → w'.heap[b]? = some (.cells cs t f) := fun b cs t f ht ho => hf.obj ho (by
    rintro rfl
    rw [h.cells] at ho
    injection ho with ho
    injection ho with _ ho _
    exact ht ho.symm)
  have hr : ∀ {r V}, Rows32 w r n V → Rows32 w' r n V := fun ⟨cur, hr, hc⟩ => ⟨cur, hk _ _ _ _ (by decide) hr, hc⟩
  exact ⟨r1, r2, c1, c2, A', m', c', V1, V2, h.ok.armed fs, hc, hr h.row1, hr h.row2, h.ne, fun i hi => (h.v1 i hi).keep fun b cs _ => hk b cs _ _ (by decide), fun i hi => (h.v2 i hi).keep fun b cs _ => hk b cs _ _ (by decide), ⟨hfl.1, fun h0 => by obtain ⟨b, cur, e, hb, hcc, r⟩ := hfl.2 h0; exact ⟨b, cur, e, hb, hk _ _ _ _ (by decide) hcc, r⟩⟩, hm, h.fa, h.f1, h.f2, fun k hk' => by have := h.lt k hk'; have := hf.size; omega⟩

/-- Append of pairs to an empty slice of faults. -/
theorem wpList_app_flt {P : Program} {w0 : World} (w : World) {F : Nat → Prop} {ops : Array Oper} {rest : List Oper} {o : Oper} {a : Act} {Q : Exit → Act → World → Prop} (hgd : o.guard = none) (s x : Operand) (t : TypeId)
    (ho : o.op = .call { callee := .builtin .append, args := #[s, x], argTypes := #[t, t] })
    (base : Nat) (e : TypeId) (i : TypeInfo) (z : Value) (ht : P.underlying t = some (.slice e)) (hi : P.info? e = some i) (hz : i.zero = some z)
    (hsize : i.size = 2) (hby : i.bytes = 16) (hzs : z.cells.size = 2)
    (v : Value) (hs : a.eval s = v) (hown : w.ownsRow base e 2 v 0 [])
    (A : Option Addr) (m c : Nat) (ps : List (Int × Int)) (hx : a.eval x = .slice A m c) (hA : A = none → c = 0) (hP : PairsF F w A m ps) (hm : m ≤ 1000000) (hb : Below base w0 w) (hbase : base ≤ w0.heap.size)
    (h : ∀ v' w', w'.ownsRow base e 2 v' m (pairCells ps) → Below base w0 w' → wpList P ops Q rest (a.put o.dst v') w') : wpList P ops Q (o :: rest) a w := by
  have hbw : base ≤ w.heap.size := by have := hb.size; omega
  match A, hx, hA, hP with
  | none, hx, hA, hP =>
    obtain ⟨rfl, rfl⟩ := pairs_none hP
    obtain rfl := hA rfl
    refine wpList_append_own_none hgd s x t ho base e i 2 ht hi v 0 [] hs hown hx ?_
    exact h v w hown hb
  | some ad, hx, hA, hP =>
    refine wpList_append_own (w := w) hgd s x t ho base e i z 2 16 ht hi hz hsize hby hzs (by decide) v 0 [] hs hown ad m c (pairCells ps) hx (by rw [pairCells_length, hP.1]) (pairs_cells hP ad rfl) (pairCells_one ps) (by unfold maxLen; omega) (by omega) hbw ?_
    intro v' w' hown' hgrow _
    rw [Nat.zero_add, List.nil_append] at hown'
    exact h v' w' hown' (owns_below hown hb hbw hgrow)

set_option maxRecDepth 20000 in
set_option maxHeartbeats 3200000 in
theorem rarm_any {w : World} {F : Nat → Prop} {a n : Nat} {S : Dsk} (h : RD w F a n S) (A : Option Addr) (m c : Nat) (ps : List (Int × Int)) (hP : PairsF F w A m ps) (hm : m ≤ 1000000) (hA : A = none → c = 0) :
    Calls Try.prog 30 #[.pointer (some ⟨a, 0, none⟩), .slice A m c] w fun e w' => e = .returned (.int .i64 (if armOk ps then 0 else 1)) ∧ RD w' (fun k => F k ∨ newF w w' k) a n (if armOk ps then S.armed ps else S) ∧ Frm F w w' := by
  have hv := rvalid_any A m c ps w hP hm
  cases hok : armOk ps with
  | false =>
    rw [hok] at hv
    have H := Lib.hid h
    clear h hP hm hok
    go_enter Try.func30, Try.ntmps30
    go_wp2_with (go_at_call 79; refine hv.mono ?_; rintro e w1 ⟨rfl, rfl⟩)
    go_ret
    exact ⟨by simp, by simpa using H.out.wide (Frm.refl F w), Frm.refl _ _⟩
  | true =>
    rw [hok] at hv
    have H := Lib.hid h
    have HP := Lib.hid hP
    have HM := Lib.hid hm
    have h64 : Hid (m ≤ 64) := by
      show _ ≤ _
      unfold armOk at hok
      simp at hok
      rw [← hP.1]
      exact hok.1
    obtain ⟨i5, hi5, hz0, hz1, hz2⟩ := info_parts infoFault
    have hown : (w.alloc (.cells #[] 91)).ownsRow w.heap.size 91 2 (.slice (some ⟨w.heap.size, 0, none⟩) 0 0) 0 [] :=
      ⟨rfl, .inr ⟨w.heap.size, 0, #[], rfl, Nat.le_refl _, by show (w.heap.push _)[w.heap.size]? = _; simp, Nat.le_refl _, Nat.zero_le _, rfl, rfl⟩⟩
    have hb := Lib.hid ((Below.refl w.heap.size w).alloc (Nat.le_refl _) (.cells #[] 91))
    have hP' := Lib.hid (hP.keep (Frm.of_below hb.out) fun b h => .inl h)
    clear h hP hm hok
    go_enter Try.func30, Try.ntmps30
    go_wp2_with (first
      | (go_at_call 79; refine hv.mono ?_; rintro e w1 ⟨rfl, rfl⟩)
      | (at_builtin; refine wpList_app_flt _ rfl _ _ 45 (by exact rfl) w.heap.size 91 i5 _ tyFaults hi5 hz0 hz1 hz2 rfl _ (by exact rfl) hown A m c ps (by exact rfl) hA hP'.out HM.out hb.out (Nat.le_refl _) ?_; intro v2 w2 hown2 hb2; obtain ⟨A2, cc2, rfl, hfl⟩ := flt_of_own hown2 HP.out.1; have hx := H.out.below hb2; obtain ⟨r1, r2, c1, c2, A1, m1, cc1, V1, V2, hx⟩ := hx; have k2 := hx.e2; have k3 := hx.e3; have g2 := hx.fr 2; have g3 := hx.fr 3; have HX := Lib.hid hx; have HB2 := Lib.hid hb2; have HFL := Lib.hid hfl; clear hx hb2 hfl hown2 hown))
    go_ret
    have h2 := HX.out.more (G := fun k => F k ∨ newF w w2 k) (fun b hb => .inl hb) fun b hb => hb.elim (HX.out.lt b) fun h => h.2
    have hfa : Frm (fun b => b = a) w2 ((w2.setCell ⟨a, 2, none⟩ (.slice A2 m cc2)).setCell ⟨a, 3, none⟩ (.int .i64 0)) := ((Frm.refl (fun b => b = a) w2).setCell (p := ⟨a, 2, none⟩) (.inl rfl) _).setCell (p := ⟨a, 3, none⟩) (.inl rfl) _
    have hsz : ((w2.setCell ⟨a, 2, none⟩ (.slice A2 m cc2)).setCell ⟨a, 3, none⟩ (.int .i64 0)).heap.size = w2.heap.size := by simp [World.setCell]
    refine ⟨by simp, ?_, (Frm.of_below HB2.out).trans hfa fun b e => .inl (e ▸ HX.out.fa)⟩
    have := set_field (j := 3) (v := .int .i64 0) (set_field (j := 2) (v := .slice A2 m cc2) h2.cells)
    have h3 := h2.arm hfa ps (flt_wide F HFL.out) h64.out (A' := A2) (c' := cc2) (by simpa using this)
    unfold newF at h3 ⊢
    rw [hsz]
    simpa using h3
end

end Go.Proofs.Ytbcfjkfkkklgbaa
