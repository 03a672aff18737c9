/-
  The parser of package directive: ended, skip, skipBlank, skipBlanks, token, value.
-/
import Derived.Test.YtpopkeidpohdiaaDoorDvM
import Derived.Test.YtpopkeidpohdiaaDoorDiT
import Derived.Test.YtpopkeidpohdiaaDoorAsB
import Derived.Test.YtpopkeidpohdiaaDoorClN
import Derived.Test.YtpopkeidpohdiaaDoorQdB
import Derived.Deep.QuietTactic
import Derived.BigQuiet
import Derived.Deep.RegionHeld3
import Derived.WalkSmall
namespace Go.Proofs.YtpopkeidpohdiaaDoor
open Go.RowKit

/-- The parser in block P: the text s, read up to k. -/
def Psr (w : World) (P : Nat) (s : ByteArray) (k : Nat) : Prop := Row w P 46 #[.string s, .int .i64 (k : Int)]
theorem Psr.cells {w : World} {P : Nat} {s : ByteArray} {k : Nat} (h : Psr w P s k) : w.cell? ⟨P, 0, none⟩ = some (.string s) ∧ w.cell? ⟨P, 1, none⟩ = some (.int .i64 (k : Int)) :=
  ⟨Row.cell h (k := 0) (by simp), Row.cell h (k := 1) (by simp)⟩
theorem Psr.frozen {w : World} {P : Nat} {s : ByteArray} {k : Nat} (h : Psr w P s k) (j : Nat) : w.frozen? ⟨P, j, none⟩ = false := by
  have := h
  unfold Psr Row at this
  simp [World.frozen?, this]
theorem Psr.set {w : World} {P : Nat} {s : ByteArray} {k : Nat} (h : Psr w P s k) (j : Nat) : Psr (w.setCell ⟨P, 1, none⟩ (.int .i64 (j : Int))) P s j := by
  unfold Psr
  rw [setCell_eq_setRow w P 1 _ _ (0, 0) _ h]
  exact setRow_heap w P _ _ _ _ h
theorem Psr.drewN {w : World} {P : Nat} {s : ByteArray} {k : Nat} (h : Psr w P s k) (m : Nat) : Psr (w.drewN m) P s k := h
theorem Psr.below {w w' : World} {P : Nat} {s : ByteArray} {k : Nat} (h : Psr w P s k) (hb : Below w.heap.size w w') : Psr w' P s k := Row.below h hb (Row.lt h)
theorem grown_set (w : World) (b i : Nat) (v : Value) : w.grownBy (w.setCell ⟨b, i, none⟩ v) (some b) :=
  ⟨rfl, rfl, rfl, by simp [World.setCell], fun k _ hne => Below.heap_setCell w ⟨b, i, none⟩ v k (fun e => hne (by rw [e]))⟩
theorem grown_drewN (w : World) (n : Nat) (row : Option Nat) : w.grownBy (w.drewN n) row := ⟨rfl, rfl, rfl, Nat.le_refl _, fun _ _ _ => rfl⟩
theorem grown_below {w w' : World} (hb : Below w.heap.size w w') (row : Option Nat) : w.grownBy w' row := ⟨hb.os, hb.tape, hb.output, hb.size, fun k hk _ => hb.block k hk⟩
theorem quiet_q {P : Program} {f : FuncId} {args : Array Value} {w : World} {n : Nat} {v : Value}
    (h : Calls P f args (w.drewN n) fun e w' => e = .returned v ∧ ∃ m, w' = (w.drewN n).drewN m) : Calls P f args (w.drewN n) fun e w'' => e = .returned v ∧ ∃ m, w'' = w.drewN m :=
  h.mono fun _ _ ⟨he, m, hm⟩ => ⟨he, n + m, by rw [hm, World.drewN_drewN]⟩
theorem quiet_qs {P : Program} {f : FuncId} {args : Array Value} {w : World} {n : Nat} {v : Value}
    (h : Calls P f args (w.drewN n) fun e w' => e = .returned v ∧ w.drewN n = w') : Calls P f args (w.drewN n) fun e w'' => e = .returned v ∧ ∃ m, w'' = w.drewN m :=
  h.mono fun _ _ ⟨he, hm⟩ => ⟨he, n, hm.symm⟩

set_option maxHeartbeats 1000000 in
theorem ended_any (s : ByteArray) (k P : Nat) (w : World) (h : Psr w P s k) :
    Calls Tryd.prog 15 #[.pointer (some ⟨P, 0, none⟩)] w fun e w' => e = .returned (.bool ((k : Int) == (s.size : Int))) ∧ ∃ m, w' = w.drewN m := by
  obtain ⟨c0, c1⟩ := h.cells
  clear h
  go_enter Tryd.func15, Tryd.ntmps15
  go_wp2
  go_quiet (fail)
  go_wp2
  go_ret
  exact ⟨rfl, _, rfl⟩

/-- What a method of the parser leaves: the answer, and where the parser stands. -/
def Reads18 (P : Nat) (s : ByteArray) (w : World) (v : Value) (k : Nat) (e : Ending) (w' : World) : Prop := e = .returned v ∧ Psr w' P s k ∧ w.grownBy w' (some P)

set_option maxHeartbeats 1000000 in
theorem skip_no (s : ByteArray) (k P : Nat) (b : UInt8) (w : World) (h : Psr w P s k) (_hs : s.size ≤ 1000000) (hk : k ≤ s.size) (hb : ∀ hlt : k < s.size, s[k] ≠ b) :
    Calls Tryd.prog 16 #[.pointer (some ⟨P, 0, none⟩), .int .u8 (b.toNat : Int)] w (Reads18 P s w (.bool false) k) := by
  obtain ⟨c0, c1⟩ := h.cells
  have H := Lib.hid h
  have ce : ∀ n, Calls Tryd.prog 15 #[.pointer (some ⟨P, 0, none⟩)] (w.drewN n) fun e w' => e = .returned (.bool ((k : Int) == (s.size : Int))) ∧ ∃ m, w' = (w.drewN n).drewN m := fun n => ended_any s k P (w.drewN n) (h.drewN n)
  by_cases hlt : k < s.size
  · have e1 : ((k : Int) == (s.size : Int)) = false := by simp; omega
    have e2 : ((s[k].toNat : Int) == (b.toNat : Int)) = false := byte_u8 (hb hlt)
    have e3 : ((s[k].toNat : Int) != (b.toNat : Int)) = true := by rw [bne, e2]; rfl
    rw [e1] at ce
    generalize (b.toNat : Int) = B at *
    clear h hb
    go_enter Tryd.func16, Tryd.ntmps16
    go_wp2
    go_quiet ((go_at_call 15; exact quiet_q (ce _)))
    go_wp2
    go_ret
    exact ⟨rfl, H.out.drewN _, grown_drewN _ _ _⟩
  · have e1 : ((k : Int) == (s.size : Int)) = true := by simp; omega
    rw [e1] at ce
    generalize (b.toNat : Int) = B at *
    clear h hb
    go_enter Tryd.func16, Tryd.ntmps16
    go_wp2
    go_quiet ((go_at_call 15; exact quiet_q (ce _)))
    go_wp2
    go_ret
    exact ⟨rfl, H.out.drewN _, grown_drewN _ _ _⟩
set_option maxHeartbeats 1000000 in
theorem skip_yes (s : ByteArray) (k P : Nat) (b : UInt8) (w : World) (h : Psr w P s k) (hs : s.size ≤ 1000000) (hlt : k < s.size) (hb : s[k] = b) :
    Calls Tryd.prog 16 #[.pointer (some ⟨P, 0, none⟩), .int .u8 (b.toNat : Int)] w (Reads18 P s w (.bool true) (k + 1)) := by
  obtain ⟨c0, c1⟩ := h.cells
  have f1 := h.frozen 1
  have H := Lib.hid h
  have ce : ∀ n, Calls Tryd.prog 15 #[.pointer (some ⟨P, 0, none⟩)] (w.drewN n) fun e w' => e = .returned (.bool ((k : Int) == (s.size : Int))) ∧ ∃ m, w' = (w.drewN n).drewN m := fun n => ended_any s k P (w.drewN n) (h.drewN n)
  have e1 : ((k : Int) == (s.size : Int)) = false := by simp; omega
  have e2 : ((s[k].toNat : Int) == (b.toNat : Int)) = true := by rw [hb]; simp
  have e3 : ((s[k].toNat : Int) != (b.toNat : Int)) = false := by rw [bne, e2]; rfl
  rw [e1] at ce
  have hkb : (k : Int) ≤ 1000000 := by omega
  generalize (b.toNat : Int) = B at *
  clear h hb
  go_enter Tryd.func16, Tryd.ntmps16
  go_wp2
  go_quiet ((go_at_call 15; exact quiet_q (ce _)))
  go_wp2
  go_ret
  refine ⟨rfl, ?_, ?_⟩
  · have := (H.out.drewN 0).set (k + 1)
    have e := H.out
    first
      | exact (H.out.drewN _).set (k + 1)
      | exact Psr.set (H.out.drewN _) (k + 1)
  · exact grownBy_trans (grown_drewN _ _ _) (grown_set _ _ _ _)

theorem blank_u (c : UInt8) : blankB (c.toNat : Int) = blankU c := rfl
set_option maxHeartbeats 1000000 in
theorem skipBlank_no (s : ByteArray) (k P : Nat) (w : World) (h : Psr w P s k) (_hs : s.size ≤ 1000000) (hk : k ≤ s.size) (hb : ∀ hlt : k < s.size, blankU s[k] = false) :
    Calls Tryd.prog 17 #[.pointer (some ⟨P, 0, none⟩)] w (Reads18 P s w (.bool false) k) := by
  obtain ⟨c0, c1⟩ := h.cells
  have H := Lib.hid h
  have ce : ∀ n, Calls Tryd.prog 15 #[.pointer (some ⟨P, 0, none⟩)] (w.drewN n) fun e w' => e = .returned (.bool ((k : Int) == (s.size : Int))) ∧ ∃ m, w' = (w.drewN n).drewN m := fun n => ended_any s k P (w.drewN n) (h.drewN n)
  by_cases hlt : k < s.size
  · have e1 : ((k : Int) == (s.size : Int)) = false := by simp; omega
    have cb := fun W => isBlank_any (s[k].toNat : Int) W
    rw [blank_u, hb hlt] at cb
    rw [e1] at ce
    clear h hb
    go_enter Tryd.func17, Tryd.ntmps17
    go_wp2
    go_quiet ((first | (go_at_call 15; exact quiet_q (ce _)) | (go_at_call 20; exact quiet_qs (cb _))))
    go_wp2
    go_ret
    exact ⟨rfl, H.out.drewN _, grown_drewN _ _ _⟩
  · have e1 : ((k : Int) == (s.size : Int)) = true := by simp; omega
    rw [e1] at ce
    clear h hb
    go_enter Tryd.func17, Tryd.ntmps17
    go_wp2
    go_quiet ((go_at_call 15; exact quiet_q (ce _)))
    go_wp2
    go_ret
    exact ⟨rfl, H.out.drewN _, grown_drewN _ _ _⟩
set_option maxHeartbeats 1000000 in
theorem skipBlank_yes (s : ByteArray) (k P : Nat) (w : World) (h : Psr w P s k) (hs : s.size ≤ 1000000) (hlt : k < s.size) (hb : blankU s[k] = true) :
    Calls Tryd.prog 17 #[.pointer (some ⟨P, 0, none⟩)] w (Reads18 P s w (.bool true) (k + 1)) := by
  obtain ⟨c0, c1⟩ := h.cells
  have f1 := h.frozen 1
  have H := Lib.hid h
  have ce : ∀ n, Calls Tryd.prog 15 #[.pointer (some ⟨P, 0, none⟩)] (w.drewN n) fun e w' => e = .returned (.bool ((k : Int) == (s.size : Int))) ∧ ∃ m, w' = (w.drewN n).drewN m := fun n => ended_any s k P (w.drewN n) (h.drewN n)
  have e1 : ((k : Int) == (s.size : Int)) = false := by simp; omega
  have cb := fun W => isBlank_any (s[k].toNat : Int) W
  rw [blank_u, hb] at cb
  rw [e1] at ce
  have hkb : (k : Int) ≤ 1000000 := by omega
  clear h hb
  go_enter Tryd.func17, Tryd.ntmps17
  go_wp2
  go_quiet ((first | (go_at_call 15; exact quiet_q (ce _)) | (go_at_call 20; exact quiet_qs (cb _))))
  go_wp2
  go_ret
  refine ⟨rfl, ?_, ?_⟩
  · exact (H.out.drewN _).set (k + 1)
  · exact grownBy_trans (grown_drewN _ _ _) (grown_set _ _ _ _)

set_option maxHeartbeats 1000000 in
theorem skipBlanks_any (s : ByteArray) (k0 P : Nat) (w : World) (h : Psr w P s k0) (hs : s.size ≤ 1000000) (hk0 : k0 ≤ s.size) :
    Calls Tryd.prog 23 #[.pointer (some ⟨P, 0, none⟩)] w (Reads18 P s w (.tuple #[]) (skN s k0)) := by
  have H := Lib.hid h
  clear h
  go_enter Tryd.func23, Tryd.ntmps23
  go_wp2
  go_loopg [] (s.size - k0) (fun g wr => ∃ k : Nat, k ≤ s.size ∧ g = s.size - k ∧ Hid (skN s k = skN s k0) ∧ Hid (Psr wr P s k) ∧ Hid (w.grownBy wr (some P)))
  case atStart => exact ⟨k0, hk0, rfl, Lib.hid rfl, H, Lib.hid (World.grownBy.refl _ _)⟩
  case round =>
    obtain ⟨k, hk, hg, HK, HP, HG⟩ := hrel
    by_cases hb : ∃ hlt : k < s.size, blankU s[k] = true
    · obtain ⟨hlt, hb⟩ := hb
      have c := skipBlank_yes s k P wr HP.out hs hlt hb
      have HN := Lib.hid ((skN_step s k hlt hb).symm.trans HK.out)
      go_wp2_with fail
      refine c.mono ?_
      rintro e w1 ⟨rfl, hp1, hg1⟩
      have HP1 := Lib.hid hp1
      have HG1 := Lib.hid (grownBy_trans HG.out hg1)
      clear hp1 hg1
      go_wp2
      go_roundg (gk - 1)
      case rel => exact ⟨k + 1, by omega, by omega, HN, HP1, HG1⟩
      case measure => omega
    · have hb' : ∀ hlt : k < s.size, blankU s[k] = false := by
        intro hlt
        cases hx : blankU s[k] with
        | false => rfl
        | true => exact absurd ⟨hlt, hx⟩ hb
      have c := skipBlank_no s k P wr HP.out hs hk hb'
      have HN : Hid (skN s k0 = k) := by
        show _ = _
        rw [← HK.out]
        by_cases hlt : k < s.size
        · exact skN_stop s k hlt (hb' hlt)
        · exact skN_end s k (by omega)
      clear hb hb'
      go_wp2_with fail
      refine c.mono ?_
      rintro e w1 ⟨rfl, hp1, hg1⟩
      go_wp2
      go_end0
      refine ⟨rfl, ?_, grownBy_trans HG.out hg1⟩
      rw [HN.out]
      exact hp1

set_option maxHeartbeats 2000000 in
theorem token_m (s : ByteArray) (k P : Nat) (w : World) (h : Psr w P s k) (hs : s.size ≤ 1000000) (hk : k ≤ s.size) :
    Calls Tryd.prog 21 #[.pointer (some ⟨P, 0, none⟩)] w (Reads18 P s w (.tuple #[.string (s.extract k (k + tkN s k)), .bool (decide (0 < tkN s k))]) (k + tkN s k)) := by
  obtain ⟨c0, c1⟩ := h.cells
  have f1 := h.frozen 1
  have ct := fun W => token_any s (k : Int) (by omega) (by omega) (by omega) W
  rw [tkE_nat] at ct
  have hE := tkN_le s k hk
  obtain ⟨E, hEe⟩ : ∃ E, E = k + tkN s k := ⟨_, rfl⟩
  have HX : Hid (decide (0 < tkN s k) = decide ((k : Int) < (E : Int))) := by
    show _ = _
    rw [decide_eq_decide]
    omega
  have hkE : k ≤ E := by omega
  have HY : Hid (decide ((k : Int) < (E : Int)) = decide (k < E)) := by
    show _ = _
    rw [decide_eq_decide]
    omega
  rw [HX.out, HY.out, ← hEe]
  rw [← hEe] at ct hE
  have cc := fun W => cl_any (s.extract k E) W (by rw [ByteArray.size_extract]; omega)
  have HP1 := Lib.hid (h.set E)
  obtain ⟨d0, d1⟩ := HP1.out.cells
  have i0 : (0 : Int) ≤ (k : Int) := by omega
  have i1 : (k : Int) ≤ (E : Int) := by omega
  have i2 : (E : Int) ≤ (s.size : Int) := by omega
  have i3 : (0 : Int) ≤ (E : Int) := by omega
  have HG1 := Lib.hid (grown_set w P 1 (.int .i64 (E : Int)))
  have hpd : Psr (w.setCell ⟨P, 1, none⟩ (.int .i64 (E : Int))).drew P s E := HP1.out
  have hgd : w.grownBy (w.setCell ⟨P, 1, none⟩ (.int .i64 (E : Int))).drew (some P) := grownBy_trans HG1.out (grown_drewN _ 1 _)
  clear h hEe
  go_enter Tryd.func21, Tryd.ntmps21
  go_wp2_with (go_at_call 26; refine (ct _).mono ?_; rintro e w' ⟨rfl, rfl⟩)
  go_region_held3 (fun W => W.cell? ⟨P, 0, none⟩ = some (.string s) ∧ W.cell? ⟨P, 1, none⟩ = some (.int .i64 (E : Int))) (go_keep)
    (first
      | (go_at_call 27
         refine (cc _).mono ?_
         rintro e w5 ⟨rfl, hb5⟩
         replace hpd : Psr w5 P s E := Psr.below hpd hb5
         replace hgd : w.grownBy w5 (some P) := grownBy_trans hgd (grown_below hb5 _)
         obtain ⟨g0, g1⟩ := hpd.cells))
  go_wp2
  go_ret2
  exact ⟨rfl, hpd, hgd⟩

theorem par_q {s : ByteArray} {i : Int} {v : List UInt8} {n : Nat} {r : Int} {f : FuncId} (hh : ∀ w, Calls Tryd.prog f #[.string s, .int .i64 i] w (QRes s i w)) (h : qpar s i = (v, n, r)) (w : World) :
    Calls Tryd.prog f #[.string s, .int .i64 i] w fun e w' => e = .returned (.tuple #[.string (bs v), .int .i64 (n : Int), .int .i64 r]) ∧ Below w.heap.size w w' := by
  refine (hh w).mono ?_
  rintro e w' ⟨h1, h2⟩
  rw [h] at h1
  exact ⟨h1, h2⟩
/-- What value leaves. -/
def ValR (P : Nat) (s : ByteArray) (k : Nat) (w : World) (e : Ending) (w' : World) : Prop :=
  match valL (dl s k) with
  | some (v, r) => ∃ n, k ≤ n ∧ n ≤ s.size ∧ dl s n = r ∧ Reads18 P s w (.tuple #[.string (bs v), .bool true]) n e w'
  | none => Reads18 P s w (.tuple #[.string ⟨#[]⟩, .bool false]) k e w'
theorem valR_yes {P : Nat} {s : ByteArray} {k n : Nat} {w w' : World} {e : Ending} {v : List UInt8} (h : valL (dl s k) = some (v, dl s n)) (h1 : k ≤ n) (h2 : n ≤ s.size) (h3 : Reads18 P s w (.tuple #[.string (bs v), .bool true]) n e w') : ValR P s k w e w' := by
  unfold ValR
  rw [h]
  exact ⟨n, h1, h2, rfl, h3⟩
theorem valR_no {P : Nat} {s : ByteArray} {k : Nat} {w w' : World} {e : Ending} (h : valL (dl s k) = none) (h3 : Reads18 P s w (.tuple #[.string ⟨#[]⟩, .bool false]) k e w') : ValR P s k w e w' := by
  unfold ValR
  rw [h]
  exact h3

set_option maxHeartbeats 2000000 in
theorem value_m (s : ByteArray) (k P : Nat) (w : World) (h : Psr w P s k) (hs : s.size ≤ 1000000) (hk : k ≤ s.size) :
    Calls Tryd.prog 24 #[.pointer (some ⟨P, 0, none⟩)] w (ValR P s k w) := by
  have ct := token_m s k P w h hs hk
  by_cases h0 : tkN s k = 0
  · have e0 : decide (0 < tkN s k) = false := by simp [h0]
    rw [e0, h0, Nat.add_zero] at ct
    obtain ⟨v, n, r, hq⟩ : ∃ v n r, qpar s (k : Int) = (v, n, r) := ⟨_, _, _, rfl⟩
    have cp := par_q (fun W => parse17_any s (k : Int) (by omega) (by omega) (by omega) W) hq
    have HQ := Lib.hid (valL_quo s k hk h0 hq)
    obtain ⟨T, hT⟩ : ∃ T, T = s.extract k k := ⟨_, rfl⟩
    rw [← hT] at ct
    clear h hq h0 e0 hT
    by_cases hr : r = 0
    · subst hr
      have HV := Lib.hid (HQ.out.1 rfl)
      clear HQ
      go_enter Tryd.func24, Tryd.ntmps24
      go_wp2_with fail
      refine ct.mono ?_
      rintro e w1 ⟨rfl, hp1, hg1⟩
      obtain ⟨c0, c1⟩ := hp1.cells
      have hpd : Psr w1.drew P s k := hp1
      have hgd : w.grownBy w1.drew (some P) := grownBy_trans hg1 (grown_drewN _ 1 _)
      clear hp1 hg1
      go_wp2
      go_region_held3 (fun W => W.cell? ⟨P, 0, none⟩ = some (.string s) ∧ W.cell? ⟨P, 1, none⟩ = some (.int .i64 (k : Int))) (go_keep)
        (first
          | (go_at_call 29
             refine (cp _).mono ?_
             rintro e w5 ⟨rfl, hb5⟩
             replace hpd : Psr w5 P s k := Psr.below hpd hb5
             replace hgd : w.grownBy w5 (some P) := grownBy_trans hgd (grown_below hb5 _)
             obtain ⟨g0, g1⟩ := hpd.cells))
      have f1 := hpd.frozen 1
      go_wp2
      go_ret2
      exact valR_yes HV.out.1 HV.out.2.1 HV.out.2.2 ⟨rfl, hpd.set n, grownBy_trans hgd (grown_set _ _ _ _)⟩
    · have hr' : (r == 0) = false := by simpa using hr
      have hr2 : (r != 0) = true := by rw [bne, hr']; rfl
      have HV := Lib.hid (HQ.out.2 hr)
      clear hr
      go_enter Tryd.func24, Tryd.ntmps24
      go_wp2_with fail
      refine ct.mono ?_
      rintro e w1 ⟨rfl, hp1, hg1⟩
      obtain ⟨c0, c1⟩ := hp1.cells
      have hpd : Psr w1.drew P s k := hp1
      have hgd : w.grownBy w1.drew (some P) := grownBy_trans hg1 (grown_drewN _ 1 _)
      clear hp1 hg1
      go_wp2
      go_region_held3 (fun W => W.cell? ⟨P, 0, none⟩ = some (.string s) ∧ W.cell? ⟨P, 1, none⟩ = some (.int .i64 (k : Int))) (go_keep)
        (first
          | (go_at_call 29
             refine (cp _).mono ?_
             rintro e w5 ⟨rfl, hb5⟩
             replace hpd : Psr w5 P s k := Psr.below hpd hb5
             replace hgd : w.grownBy w5 (some P) := grownBy_trans hgd (grown_below hb5 _)
             obtain ⟨g0, g1⟩ := hpd.cells))
      go_wp2
      go_ret2
      exact valR_no HV.out ⟨rfl, hpd, hgd⟩
  · have e0 : decide (0 < tkN s k) = true := by simp; omega
    have ht : (dl s k).takeWhile tokU ≠ [] := fun e => h0 ((tok_nil s k).2 e)
    have hle := tkN_le s k hk
    have HV : Hid (valL (dl s k) = some ((dl s k).takeWhile tokU, dl s (k + tkN s k))) := by
      show _ = _
      rw [valL_tok ht, dl_tok]
    rw [e0, tok_bs] at ct
    obtain ⟨v, hv⟩ : ∃ v, v = (dl s k).takeWhile tokU := ⟨_, rfl⟩
    obtain ⟨n, hn⟩ : ∃ n, n = k + tkN s k := ⟨_, rfl⟩
    rw [← hv, ← hn] at ct HV
    have hkn : k ≤ n ∧ n ≤ s.size := by omega
    clear h h0 e0 ht hv hn hle
    go_enter Tryd.func24, Tryd.ntmps24
    go_wp2_with fail
    refine ct.mono ?_
    rintro e w1 ⟨rfl, hp1, hg1⟩
    go_wp2
    go_ret2
    exact valR_yes HV.out hkn.1 hkn.2 ⟨rfl, hp1, hg1⟩

end Go.Proofs.YtpopkeidpohdiaaDoor
