/-
  The parser of package directive: element.
-/
import Derived.Test.YtpopkeidpohdiaaDoorDiA
import Derived.Test.YtpopkeidpohdiaaDoorAsL
namespace Go.Proofs.YtpopkeidpohdiaaDoor
open Go.RowKit

theorem grown_none {w w' : World} (h : w.grownBy w' none) (row : Option Nat) : w.grownBy w' row := ⟨h.os, h.tape, h.output, h.size, fun k hk _ => h.block k hk (by simp)⟩
theorem grown_new {w W W' : World} {row : Option Nat} {g : Nat} (h : w.grownBy W row) (h2 : W.grownBy W' (some g)) (hg : w.heap.size ≤ g) : w.grownBy W' row :=
  ⟨h2.os.trans h.os, h2.tape.trans h.tape, h2.output.trans h.output, Nat.le_trans h.size h2.size, fun k hk hne => (h2.block k (Nat.lt_of_lt_of_le hk h.size) (fun e => by injection e with e; omega)).trans (h.block k hk hne)⟩
/-- Where element stands: the parser, the result's variable. -/
structure ESt (w W : World) (P : Nat) (s : ByteArray) (k g2 : Nat) : Prop where
  hp : Psr W P s k
  hG : w.grownBy W (some P)
  r2 : RowDv W g2 ⟨#[]⟩ ⟨#[]⟩ false
  lt : P < w.heap.size
  le : w.heap.size ≤ g2
theorem ESt.call {w W W' : World} {P k k' g2 : Nat} {s : ByteArray} {v : Value} {e : Ending} (h : ESt w W P s k g2) (hr : Reads18 P s W v k' e W') : ESt w W' P s k' g2 :=
  ⟨hr.2.1, grownBy_trans h.hG hr.2.2, Row.grown h.r2 hr.2.2 (by have := h.lt; have := h.le; omega), h.lt, h.le⟩
theorem ESt.below {w W W' : World} {P k g2 : Nat} {s : ByteArray} (h : ESt w W P s k g2) (hb : Below W.heap.size W W') : ESt w W' P s k g2 :=
  ⟨h.hp.below hb, grownBy_trans h.hG (grown_below hb _), Row.below h.r2 hb (Row.lt h.r2), h.lt, h.le⟩
theorem ESt.drewN {w W : World} {P k g2 : Nat} {s : ByteArray} (h : ESt w W P s k g2) (m : Nat) : ESt w (W.drewN m) P s k g2 :=
  ⟨h.hp.drewN m, grownBy_trans h.hG (grown_drewN _ _ _), h.r2, h.lt, h.le⟩
theorem ESt.alloc {w W W' : World} {P k g2 : Nat} {s : ByteArray} (h : ESt w W P s k g2) (hg : W.grownBy W' none) : ESt w W' P s k g2 :=
  ⟨Row.grown0 h.hp hg, grownBy_trans h.hG (grown_none hg _), Row.grown0 h.r2 hg, h.lt, h.le⟩
theorem ESt.store {w W W' : World} {P k g2 g : Nat} {s : ByteArray} (h : ESt w W P s k g2) (hg : W.grownBy W' (some g)) (hne : g2 ≠ g) (hle : w.heap.size ≤ g) : ESt w W' P s k g2 :=
  ⟨Row.grown h.hp hg (by have := h.lt; omega), grown_new h.hG hg hle, Row.grown h.r2 hg hne, h.lt, h.le⟩
theorem ESt.final {w W W' : World} {P k g2 : Nat} {s : ByteArray} (h : ESt w W P s k g2) (hg : W.grownBy W' (some g2)) : Psr W' P s k ∧ w.grownBy W' (some P) :=
  ⟨Row.grown h.hp hg (by have := h.lt; have := h.le; omega), grown_new h.hG hg h.le⟩
/-- A directive's variable through a step. -/
theorem RowDv.call {W W' : World} {P k' g : Nat} {s : ByteArray} {v : Value} {e : Ending} {n x : ByteArray} {b : Bool} (h : RowDv W g n x b) (hr : Reads18 P s W v k' e W') (hne : g ≠ P) : RowDv W' g n x b := Row.grown h hr.2.2 hne

/-- What element leaves. -/
def ElR (P : Nat) (s : ByteArray) (k : Nat) (w : World) (e : Ending) (w' : World) : Prop :=
  match elemR (dl s k) with
  | some (d, t) => ∃ n, k < n ∧ n ≤ s.size ∧ dl s n = t ∧ Reads18 P s w (.tuple #[.agg #[.string (bs d.name), .string (bs d.value), .bool d.has], .bool true]) n e w'
  | none => ∃ n, Reads18 P s w (.tuple #[.agg #[.string ⟨#[]⟩, .string ⟨#[]⟩, .bool false], .bool false]) n e w'
theorem elR_yes {P : Nat} {s : ByteArray} {k n : Nat} {w w' : World} {e : Ending} {d : Dv} (h : elemR (dl s k) = some (d, dl s n)) (h1 : k < n) (h2 : n ≤ s.size) (h3 : Reads18 P s w (.tuple #[.agg #[.string (bs d.name), .string (bs d.value), .bool d.has], .bool true]) n e w') : ElR P s k w e w' := by
  unfold ElR
  rw [h]
  exact ⟨n, h1, h2, rfl, h3⟩
theorem elR_no {P : Nat} {s : ByteArray} {k n : Nat} {w w' : World} {e : Ending} (h : elemR (dl s k) = none) (h3 : Reads18 P s w (.tuple #[.agg #[.string ⟨#[]⟩, .string ⟨#[]⟩, .bool false], .bool false]) n e w') : ElR P s k w e w' := by
  unfold ElR
  rw [h]
  exact ⟨n, h3⟩
theorem bs_nil : bs [] = ⟨#[]⟩ := rfl

set_option maxRecDepth 20000 in
set_option maxHeartbeats 4000000 in
theorem element_m (s : ByteArray) (k P : Nat) (w : World) (h : Psr w P s k) (hs : s.size ≤ 1000000) (hk : k ≤ s.size) :
    Calls Tryd.prog 18 #[.pointer (some ⟨P, 0, none⟩)] w (ElR P s k w) := by
  have hlt := Row.lt h
  have hle := tkN_le s k hk
  by_cases h0 : tkN s k = 0
  · have ct := fun W hW => token_m s k P W hW hs hk
    have HX := Lib.hid (elemR_none (elemL_tk0 s k h0))
    have e0 : decide (0 < tkN s k) = false := by simp [h0]
    rw [e0, h0, Nat.add_zero] at ct
    obtain ⟨T, hT⟩ : ∃ T, T = s.extract k k := ⟨_, rfl⟩
    rw [← hT] at ct
    clear h0 e0 hT hle
    go_enter Tryd.func18, Tryd.ntmps18
    go_wp2_with (first | (refine wpList_alloc_arr _ rfl 2 rfl _ rfl dz zeroDv ?_; intro W2 g2 hg2 hl2 hR2 hG2))
    have hE : ESt w W2 P s k g2 := ⟨Row.grown0 h hG2, grown_none hG2 _, hR2, hlt, hg2⟩
    clear h hR2 hG2 hl2 hlt
    refine (ct _ hE.hp).mono ?_
    intro e w1 hr
    have hE := hE.call hr
    obtain ⟨rfl, _, _⟩ := hr
    go_wp2_with (first | (refine wpList_store_dv rfl rfl _ _ rfl g2 (by exact rfl) ⟨#[]⟩ ⟨#[]⟩ false (by exact rfl) _ _ _ hE.r2 ?_; intro w9 hr9 hG9))
    have hF := hE.final hG9
    exact ret_dv 2 3 rfl g2 rfl _ _ _ hr9 _ rfl rfl (elR_no HX.out ⟨rfl, hF.1, hF.2⟩)
  · have ct := fun W hW => token_m s k P W hW hs hk
    have e0 : decide (0 < tkN s k) = true := by simp; omega
    rw [e0, tok_bs] at ct
    have htl : ((dl s k).takeWhile tokU).length ≤ 1000000 := by
      have := takeWhile_le tokU (dl s k)
      rw [dl_len] at this
      omega
    have hk1 : k < k + tkN s k := by omega
    have cl := fun W => lower_any (bs ((dl s k).takeWhile tokU)) W (by rw [bs_size]; omega)
    rw [low_bs] at cl
    have PV := fun k2 => elemL_val s k k2 h0
    have PP := fun k2 => elemL_plain s k k2 h0
    obtain ⟨k1, hk1e⟩ : ∃ k1, k1 = k + tkN s k := ⟨_, rfl⟩
    rw [← hk1e] at ct hk1 hle PV PP
    have cb := fun W hW => skipBlanks_any s k1 P W hW hs hle
    have hk2 := skN_le s k1 hle
    have hk12 := skN_ge s k1
    have hss := skN_skN s k1
    obtain ⟨k2, hk2e⟩ : ∃ k2, k2 = skN s k1 := ⟨_, rfl⟩
    rw [← hk2e] at cb hk2 hk12 hss
    have PV := PV k2 hk2e.symm
    have PP := PP k2 hk2e.symm
    generalize (dl s k).takeWhile tokU = T at *
    generalize lowL T = L at *
    clear h0 e0 hk1e hk2e htl
    have hkk2 : k < k2 := by omega
    by_cases hq : ∃ hlt : k2 < s.size, s[k2] = 61
    · obtain ⟨hlt2, hq⟩ := hq
      have PV := PV hlt2 hq
      have cq := fun W hW => skip_yes s k2 P 61 W hW hs hlt2 hq
      have hk3 := skN_le s (k2 + 1) hlt2
      have hk34 := skN_ge s (k2 + 1)
      have cb3 := fun W hW => skipBlanks_any s (k2 + 1) P W hW hs hlt2
      obtain ⟨k4, hk4e⟩ : ∃ k4, k4 = skN s (k2 + 1) := ⟨_, rfl⟩
      rw [← hk4e] at cb3 hk3 hk34 PV
      have cv := fun W hW => value_m s k4 P W hW hs hk3
      have hkk4 : k < k4 := by omega
      clear hq hss hk34 hk12 hk4e PP
      cases hV : valL (dl s k4) with
      | none =>
        rw [hV] at PV
        have HX := Lib.hid (elemR_none PV)
        unfold ValR at cv
        rw [hV] at cv
        clear hV PV
        go_enter Tryd.func18, Tryd.ntmps18
        go_wp2_with (first | (refine wpList_alloc_arr _ rfl 2 rfl _ rfl dz zeroDv ?_; intro W2 g2 hg2 hl2 hR2 hG2))
        have hE : ESt w W2 P s k g2 := ⟨Row.grown0 h hG2, grown_none hG2 _, hR2, hlt, hg2⟩
        clear h hR2 hG2 hl2 hlt
        refine (ct _ hE.hp).mono ?_
        intro e w1 hr
        have hE := hE.call hr
        obtain ⟨rfl, _, _⟩ := hr
        go_wp2_with fail
        refine (cl _).mono ?_
        rintro e w3 ⟨rfl, hb⟩
        have hE := hE.below hb
        clear hb
        go_wp2_with (first
          | (refine wpList_alloc_arr _ rfl 6 rfl _ rfl dz zeroDv ?_
             intro W6 g6 hg6 hl6 hR6 hG6
             have hne := Row.lt hE.r2
             have hle6 := hE.hG.size
             have hE := hE.alloc hG6)
          | (refine wpList_store_dv rfl rfl _ _ rfl g6 (by exact rfl) (bs L) ⟨#[]⟩ false (by exact rfl) _ _ _ hR6 ?_
             intro w7 hr6 hG7
             have hE := hE.store hG7 (by omega) (by omega)))
        have hne6 : g2 ≠ g6 := by omega
        have hn6 : g6 ≠ P := by have := hE.lt; omega
        have h6 : w.heap.size ≤ g6 := by omega
        clear hne hle6 hg6 hl6 hG6 hG7 hR6
        refine (cb _ hE.hp).mono ?_
        intro e w8 hb
        have hr6 := hr6.call hb hn6
        have hE := hE.call hb
        obtain ⟨rfl, _, _⟩ := hb
        go_wp2_with fail
        refine (cq _ hE.hp).mono ?_
        intro e w8 hb
        have hr6 := hr6.call hb hn6
        have hE := hE.call hb
        obtain ⟨rfl, _, _⟩ := hb
        go_wp2_with fail
        refine (cb3 _ hE.hp).mono ?_
        intro e w8 hb
        have hr6 := hr6.call hb hn6
        have hE := hE.call hb
        obtain ⟨rfl, _, _⟩ := hb
        go_wp2_with fail
        refine (cv _ hE.hp).mono ?_
        intro e w8 hb
        have hr6 := hr6.call hb hn6
        have hE := hE.call hb
        obtain ⟨rfl, _, _⟩ := hb
        go_wp2_with (first
          | (refine wpList_store_dv1 rfl rfl _ _ rfl g6 (by exact rfl) ⟨#[]⟩ (by exact rfl) _ _ _ hr6 ?_
             intro w7 hr61 hG7
             have hE := hE.store hG7 hne6 h6)
          | (refine wpList_store_dv2 rfl rfl _ _ rfl g6 (by exact rfl) false (by exact rfl) _ _ _ hr61 ?_
             intro w7' hr62 hG7'
             have hE := hE.store hG7' hne6 h6
             obtain ⟨z0, z1, z2⟩ := hr62.cells)
          | (refine wpList_store_dv rfl rfl _ _ rfl g2 (by exact rfl) ⟨#[]⟩ ⟨#[]⟩ false (by exact rfl) _ _ _ hE.r2 ?_; intro w9 hr9 hG9))
        have hF := hE.final hG9
        exact ret_dv 2 3 rfl g2 rfl _ _ _ hr9 _ rfl rfl (elR_no HX.out ⟨rfl, hF.1, hF.2⟩)
      | some p =>
        obtain ⟨v, r⟩ := p
        rw [hV] at PV
        have PV := Lib.hid PV
        unfold ValR at cv
        rw [hV] at cv
        clear hV
        go_enter Tryd.func18, Tryd.ntmps18
        go_wp2_with (first | (refine wpList_alloc_arr _ rfl 2 rfl _ rfl dz zeroDv ?_; intro W2 g2 hg2 hl2 hR2 hG2))
        have hE : ESt w W2 P s k g2 := ⟨Row.grown0 h hG2, grown_none hG2 _, hR2, hlt, hg2⟩
        clear h hR2 hG2 hl2 hlt
        refine (ct _ hE.hp).mono ?_
        intro e w1 hr
        have hE := hE.call hr
        obtain ⟨rfl, _, _⟩ := hr
        go_wp2_with fail
        refine (cl _).mono ?_
        rintro e w3 ⟨rfl, hb⟩
        have hE := hE.below hb
        clear hb
        go_wp2_with (first
          | (refine wpList_alloc_arr _ rfl 6 rfl _ rfl dz zeroDv ?_
             intro W6 g6 hg6 hl6 hR6 hG6
             have hne := Row.lt hE.r2
             have hle6 := hE.hG.size
             have hE := hE.alloc hG6)
          | (refine wpList_store_dv rfl rfl _ _ rfl g6 (by exact rfl) (bs L) ⟨#[]⟩ false (by exact rfl) _ _ _ hR6 ?_
             intro w7 hr6 hG7
             have hE := hE.store hG7 (by omega) (by omega)))
        have hne6 : g2 ≠ g6 := by omega
        have hn6 : g6 ≠ P := by have := hE.lt; omega
        have h6 : w.heap.size ≤ g6 := by omega
        clear hne hle6 hg6 hl6 hG6 hG7 hR6
        refine (cb _ hE.hp).mono ?_
        intro e w8 hb
        have hr6 := hr6.call hb hn6
        have hE := hE.call hb
        obtain ⟨rfl, _, _⟩ := hb
        go_wp2_with fail
        refine (cq _ hE.hp).mono ?_
        intro e w8 hb
        have hr6 := hr6.call hb hn6
        have hE := hE.call hb
        obtain ⟨rfl, _, _⟩ := hb
        go_wp2_with fail
        refine (cb3 _ hE.hp).mono ?_
        intro e w8 hb
        have hr6 := hr6.call hb hn6
        have hE := hE.call hb
        obtain ⟨rfl, _, _⟩ := hb
        go_wp2_with fail
        refine (cv _ hE.hp).mono ?_
        rintro e w8 ⟨n, hn1, hn2, hnr, hb⟩
        have HR := Lib.hid (elemR_eq PV.out)
        rw [← hnr] at HR
        have cb6 := fun W hW => skipBlanks_any s n P W hW hs hn2
        have hm1 := skN_ge s n
        have hm2 := skN_le s n hn2
        obtain ⟨m, hm⟩ : ∃ m, m = skN s n := ⟨_, rfl⟩
        rw [← hm] at cb6 hm1 hm2
        have HM := Lib.hid hm.symm
        have hkm : k < m := by omega
        clear PV hnr hm hn1 hn2 hm1
        have hr6 := hr6.call hb hn6
        have hE := hE.call hb
        obtain ⟨rfl, _, _⟩ := hb
        go_wp2_with (first
          | (refine wpList_store_dv1 rfl rfl _ _ rfl g6 (by exact rfl) (bs v) (by exact rfl) _ _ _ hr6 ?_
             intro w7 hr61 hG7
             have hE := hE.store hG7 hne6 h6)
          | (refine wpList_store_dv2 rfl rfl _ _ rfl g6 (by exact rfl) true (by exact rfl) _ _ _ hr61 ?_
             intro w7' hr62 hG7'
             have hE := hE.store hG7' hne6 h6
             obtain ⟨z0, z1, z2⟩ := hr62.cells))
        refine (cb6 _ hE.hp).mono ?_
        intro e w8 hb
        have hr6 := hr62.call hb hn6
        have hE := hE.call hb
        obtain ⟨rfl, _, _⟩ := hb
        clear hr61 hr62 z0 z1 z2 hG7 hG7'
        by_cases he : m = s.size
        · have e1 : ((m : Int) == (s.size : Int)) = true := by simp; omega
          have HX := Lib.hid (HR.out.trans (endR_end s _ _ m HM.out he))
          have ce := fun W hW => ended_any s m P W hW
          rw [e1] at ce
          have hms : m ≤ s.size := by omega
          clear he HM
          go_wp2_with fail
          refine (ce _ hE.hp).mono ?_
          rintro e wa ⟨rfl, ma, rfl⟩
          have hE := hE.drewN ma
          have hr6 : RowDv (World.drewN _ ma) g6 (bs L) (bs v) true := hr6
          go_wp2_with (first
            | refine wpList_load_dv (by rfl) _ rfl g6 (by exact rfl) _ _ _ hr6 ?_
            | (refine wpList_store_dv rfl rfl _ _ rfl g2 (by exact rfl) (bs L) (bs v) true (by exact rfl) _ _ _ hE.r2 ?_; intro w9 hr9 hG9))
          have hF := hE.final hG9
          exact ret_dv 2 3 rfl g2 rfl _ _ _ hr9 _ rfl rfl (elR_yes HX.out hkm hms ⟨rfl, hF.1, hF.2⟩)
        · have hlt9 : m < s.size := by omega
          have e1 : ((m : Int) == (s.size : Int)) = false := by simp; omega
          have ce := fun W hW => ended_any s m P W hW
          rw [e1] at ce
          by_cases hc9 : s[m] = 59
          · have HX := Lib.hid (HR.out.trans (endR_semi s _ _ m HM.out hlt9 hc9))
            have cs := fun W hW => skip_yes s m P 59 W hW hs hlt9 hc9
            clear he HM hc9
            go_wp2_with fail
            refine (ce _ hE.hp).mono ?_
            rintro e wa ⟨rfl, ma, rfl⟩
            have hE := hE.drewN ma
            have hr6 : RowDv (World.drewN _ ma) g6 (bs L) (bs v) true := hr6
            go_wp2_with fail
            refine (cs _ hE.hp).mono ?_
            intro e wb hb
            have hr6 := hr6.call hb (by have := hE.lt; omega)
            have hE := hE.call hb
            obtain ⟨rfl, _, _⟩ := hb
            go_wp2_with (first
              | refine wpList_load_dv (by rfl) _ rfl g6 (by exact rfl) _ _ _ hr6 ?_
              | (refine wpList_store_dv rfl rfl _ _ rfl g2 (by exact rfl) (bs L) (bs v) true (by exact rfl) _ _ _ hE.r2 ?_; intro w9 hr9 hG9))
            have hF := hE.final hG9
            exact ret_dv 2 3 rfl g2 rfl _ _ _ hr9 _ rfl rfl (elR_yes HX.out (Nat.lt_succ_of_lt hkm) hlt9 ⟨rfl, hF.1, hF.2⟩)
          · have HX := Lib.hid (HR.out.trans (endR_no s _ _ m HM.out hlt9 hc9))
            have cs := fun W hW => skip_no s m P 59 W hW hs (by omega) (fun _ => hc9)
            clear he HM hc9
            go_wp2_with fail
            refine (ce _ hE.hp).mono ?_
            rintro e wa ⟨rfl, ma, rfl⟩
            have hE := hE.drewN ma
            go_wp2_with fail
            refine (cs _ hE.hp).mono ?_
            intro e wb hb
            have hE := hE.call hb
            obtain ⟨rfl, _, _⟩ := hb
            go_wp2_with (first | (refine wpList_store_dv rfl rfl _ _ rfl g2 (by exact rfl) ⟨#[]⟩ ⟨#[]⟩ false (by exact rfl) _ _ _ hE.r2 ?_; intro w9 hr9 hG9))
            have hF := hE.final hG9
            exact ret_dv 2 3 rfl g2 rfl _ _ _ hr9 _ rfl rfl (elR_no HX.out ⟨rfl, hF.1, hF.2⟩)
    · have hq' : ∀ hlt : k2 < s.size, s[k2] ≠ 61 := fun hlt hc => hq ⟨hlt, hc⟩
      have HR := Lib.hid (elemR_eq (PP hq'))
      have cq := fun W hW => skip_no s k2 P 61 W hW hs hk2 hq'
      have HM := Lib.hid hss
      clear hq hq' hss PV PP
      go_enter Tryd.func18, Tryd.ntmps18
      go_wp2_with (first | (refine wpList_alloc_arr _ rfl 2 rfl _ rfl dz zeroDv ?_; intro W2 g2 hg2 hl2 hR2 hG2))
      have hE : ESt w W2 P s k g2 := ⟨Row.grown0 h hG2, grown_none hG2 _, hR2, hlt, hg2⟩
      clear h hR2 hG2 hl2 hlt
      refine (ct _ hE.hp).mono ?_
      intro e w1 hr
      have hE := hE.call hr
      obtain ⟨rfl, _, _⟩ := hr
      go_wp2_with fail
      refine (cl _).mono ?_
      rintro e w3 ⟨rfl, hb⟩
      have hE := hE.below hb
      clear hb
      go_wp2_with (first
        | (refine wpList_alloc_arr _ rfl 6 rfl _ rfl dz zeroDv ?_
           intro W6 g6 hg6 hl6 hR6 hG6
           have hne := Row.lt hE.r2
           have hle6 := hE.hG.size
           have hE := hE.alloc hG6)
        | (refine wpList_store_dv rfl rfl _ _ rfl g6 (by exact rfl) (bs L) ⟨#[]⟩ false (by exact rfl) _ _ _ hR6 ?_
           intro w7 hr6 hG7
           have hE := hE.store hG7 (by omega) (by omega)))
      have hne6 : g2 ≠ g6 := by omega
      have hn6 : g6 ≠ P := by have := hE.lt; omega
      have h6 : w.heap.size ≤ g6 := by omega
      clear hne hle6 hg6 hl6 hG6 hG7 hR6
      refine (cb _ hE.hp).mono ?_
      intro e w8 hb
      have hr6 := hr6.call hb hn6
      have hE := hE.call hb
      obtain ⟨rfl, _, _⟩ := hb
      go_wp2_with fail
      refine (cq _ hE.hp).mono ?_
      intro e w8 hb
      have hr6 := hr6.call hb hn6
      have hE := hE.call hb
      obtain ⟨rfl, _, _⟩ := hb
      by_cases he : k2 = s.size
      · have e1 : ((k2 : Int) == (s.size : Int)) = true := by simp; omega
        have HX := Lib.hid (HR.out.trans (endR_end s _ _ k2 HM.out he))
        have ce := fun W hW => ended_any s k2 P W hW
        rw [e1] at ce
        have hms : k2 ≤ s.size := by omega
        clear he HM
        go_wp2_with fail
        refine (ce _ hE.hp).mono ?_
        rintro e wa ⟨rfl, ma, rfl⟩
        have hE := hE.drewN ma
        have hr6 : RowDv (World.drewN _ ma) g6 (bs L) ⟨#[]⟩ false := hr6
        go_wp2_with (first
          | refine wpList_load_dv (by rfl) _ rfl g6 (by exact rfl) _ _ _ hr6 ?_
          | (refine wpList_store_dv rfl rfl _ _ rfl g2 (by exact rfl) (bs L) ⟨#[]⟩ false (by exact rfl) _ _ _ hE.r2 ?_; intro w9 hr9 hG9))
        have hF := hE.final hG9
        exact ret_dv 2 3 rfl g2 rfl _ _ _ hr9 _ rfl rfl (elR_yes HX.out hkk2 hms ⟨rfl, hF.1, hF.2⟩)
      · have hlt9 : k2 < s.size := by omega
        have e1 : ((k2 : Int) == (s.size : Int)) = false := by simp; omega
        have ce := fun W hW => ended_any s k2 P W hW
        rw [e1] at ce
        by_cases hc9 : s[k2] = 59
        · have HX := Lib.hid (HR.out.trans (endR_semi s _ _ k2 HM.out hlt9 hc9))
          have cs := fun W hW => skip_yes s k2 P 59 W hW hs hlt9 hc9
          clear he HM hc9
          go_wp2_with fail
          refine (ce _ hE.hp).mono ?_
          rintro e wa ⟨rfl, ma, rfl⟩
          have hE := hE.drewN ma
          have hr6 : RowDv (World.drewN _ ma) g6 (bs L) ⟨#[]⟩ false := hr6
          go_wp2_with fail
          refine (cs _ hE.hp).mono ?_
          intro e wb hb
          have hr6 := hr6.call hb (by have := hE.lt; omega)
          have hE := hE.call hb
          obtain ⟨rfl, _, _⟩ := hb
          go_wp2_with (first
            | refine wpList_load_dv (by rfl) _ rfl g6 (by exact rfl) _ _ _ hr6 ?_
            | (refine wpList_store_dv rfl rfl _ _ rfl g2 (by exact rfl) (bs L) ⟨#[]⟩ false (by exact rfl) _ _ _ hE.r2 ?_; intro w9 hr9 hG9))
          have hF := hE.final hG9
          exact ret_dv 2 3 rfl g2 rfl _ _ _ hr9 _ rfl rfl (elR_yes HX.out (Nat.lt_succ_of_lt hkk2) hlt9 ⟨rfl, hF.1, hF.2⟩)
        · have HX := Lib.hid (HR.out.trans (endR_no s _ _ k2 HM.out hlt9 hc9))
          have cs := fun W hW => skip_no s k2 P 59 W hW hs (by omega) (fun _ => hc9)
          clear he HM hc9
          go_wp2_with fail
          refine (ce _ hE.hp).mono ?_
          rintro e wa ⟨rfl, ma, rfl⟩
          have hE := hE.drewN ma
          go_wp2_with fail
          refine (cs _ hE.hp).mono ?_
          intro e wb hb
          have hE := hE.call hb
          obtain ⟨rfl, _, _⟩ := hb
          go_wp2_with (first | (refine wpList_store_dv rfl rfl _ _ rfl g2 (by exact rfl) ⟨#[]⟩ ⟨#[]⟩ false (by exact rfl) _ _ _ hE.r2 ?_; intro w9 hr9 hG9))
          have hF := hE.final hG9
          exact ret_dv 2 3 rfl g2 rfl _ _ _ hr9 _ rfl rfl (elR_no HX.out ⟨rfl, hF.1, hF.2⟩)

end Go.Proofs.YtpopkeidpohdiaaDoor
