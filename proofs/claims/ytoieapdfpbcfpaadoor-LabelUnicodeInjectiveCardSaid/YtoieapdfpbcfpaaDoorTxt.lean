/-
  Contract of the reference's Text of layer 13.
-/
import Derived.Test.YtoieapdfpbcfpaaDoorLabP
import Derived.Test.YtoieapdfpbcfpaaDoorPuQ
import Derived.Test.YtoieapdfpbcfpaaDoorApp
import Derived.Test.YtoieapdfpbcfpaaDoorTyB
import Derived.Deep.LoopGhost
import Derived.BigQuiet
namespace Go.Proofs.YtoieapdfpbcfpaaDoor
open Go.RowKit

theorem cell_nv {w wr : World} {B len : Nat} {b1 o1 : Nat} {P : List Nat} (h : Has w B (some ⟨b1, o1, none⟩) len (P.map nvI)) (hb : Below w.heap.size w wr) (hB : B ≤ w.heap.size) (k : Nat) (hk : k < P.length) (hl : k < len) :
    wr.cell? ⟨b1, o1 + k, none⟩ = some (nvI P[k]) := by
  obtain ⟨b', off', e, hlt', hc⟩ := h.at_ hl
  injection e with e
  injection e with e1 e2 _
  subst e1 e2
  rw [hb.cell (p := ⟨b1, o1 + k, none⟩) (Nat.lt_of_lt_of_le hlt' hB), hc]
  simp
theorem txt_snoc (P : List Nat) (k : Nat) (hk : k < P.length) : txtL (P.take (k + 1)) = txtL (P.take k) ++ txt8 P[k] := by
  rw [List.take_succ_eq_append_getElem hk]
  unfold txtL
  rw [List.flatMap_append]
  simp
theorem bv8 {x : Nat} (h : x < 256) : bv (UInt8.ofNat x) = .int .u8 (x : Int) := by rw [bv_eq, of8 h]
theorem div_int (p d : Nat) : Int.tdiv (p : Int) (d : Int) = ((p / d : Nat) : Int) := by
  rw [Int.tdiv_eq_ediv_of_nonneg (by omega)]
  exact (Int.natCast_ediv _ _).symm
theorem mod_int (p d : Nat) : Int.tmod (p : Int) (d : Int) = ((p % d : Nat) : Int) := by
  rw [Int.tmod_eq_emod_of_nonneg (by omega)]
  exact (Int.natCast_emod _ _).symm
theorem txtL_le4 : ∀ (P : List Nat), (txtL P).length ≤ 4 * P.length
  | [] => Nat.le_refl _
  | q :: P => by
    have e : (txtL (q :: P)).length = (txt8 q).length + (txtL P).length := by
      show (txt8 q ++ txtL P).length = _
      rw [List.length_append]
    have := (txt8_len q).2.2.2
    have := txtL_le4 P
    rw [e, List.length_cons]
    omega

set_option maxRecDepth 20000 in
set_option maxHeartbeats 8000000 in
theorem refTxt_any (P : List Nat) (hP : ∀ p ∈ P, p ≤ 1114111) (A : Option Addr) (len cap B : Nat) (w : World) (hA : Has w B A len (P.map nvI)) (hB : B ≤ w.heap.size) (hl : len ≤ 100000000) :
    Calls Tryd.prog 29 #[.slice A len cap] w fun e w' => e = .returned (.string (bs (txtL P))) ∧ Below w.heap.size w w' := by
  obtain ⟨i5, hi5, hz0, hz1, hz2⟩ := info_parts infoU8
  have hlen : len = P.length := by have := hA.1; simpa using this.symm
  subst hlen
  have H := Lib.hid hA
  have HP := Lib.hid hP
  clear hA hP
  go_enter Tryd.func29, Tryd.ntmps29
  go_wp2
  go_loopg [3, 4] P.length (fun g v i wr => ∃ k n : Nat, k ≤ P.length ∧ g = P.length - k ∧ i = .int .i64 k ∧ Hid ((txtL (P.take k)).length = n) ∧ n ≤ 4 * k ∧ wr.ownsRow w.heap.size 5 1 v n ((txtL (P.take k)).map bv) ∧ Below w.heap.size w wr)
  case atStart => exact ⟨0, 0, Nat.zero_le _, rfl, rfl, Lib.hid rfl, Nat.zero_le _, World.ownsRow_nil _ _ _ _, Below.refl _ _⟩
  case round =>
    obtain ⟨k, n, hk, hg, rfl, HN, hn4, hown, hb⟩ := hrel
    have HG := Lib.hid hg
    clear hg
    by_cases hlt : k < P.length
    · obtain ⟨b1, o1, rfl, l1, d1⟩ := H.out.2 (by omega)
      have g1 := cell_nv H.out hb hB k hlt hlt
      have hkd : decide ((k : Int) < (P.length : Int)) = true := decide_eq_true (by omega)
      have hsn := txt_snoc P k hlt
      have hple := HP.out P[k] (List.getElem_mem hlt)
      have HB0 := Lib.hid hb
      obtain ⟨p, hp⟩ : ∃ p, p = P[k] := ⟨_, rfl⟩
      rw [← hp] at g1 hsn hple
      have HSN := Lib.hid hsn
      clear d1 hp hsn
      by_cases h1 : p < 128
      · have d128 : decide ((p : Int) < 128) = true := decide_eq_true (by omega)
        obtain ⟨x0, hx0⟩ : ∃ x0, x0 = p := ⟨_, rfl⟩
        have hb0 : x0 < 256 := by omega
        have HT : Hid (txt8 p = [UInt8.ofNat x0]) := by show _ = _; unfold txt8; rw [if_pos (by omega)]; rw [hx0]
        have HV : Hid ([UInt8.ofNat x0].map bv = [.int .u8 (x0 : Int)]) := Lib.hid (by simp only [List.map_cons, List.map_nil, bv8 hb0])
        have HN2 : Hid ((txtL (P.take (k + 1))).length = n + 1) := by show _ = _; rw [HSN.out, List.length_append, HN.out, HT.out]; rfl
        have HR : Hid ((txtL (P.take (k + 1))).map bv = (txtL (P.take k)).map bv ++ [.int .u8 (x0 : Int)]) := by show _ = _; rw [HSN.out, List.map_append, HT.out, HV.out]
        subst hx0
        go_wp2_with (at_builtin; refine wpList_app_one wr rfl _ _ 41 rfl w.heap.size 5 i5 (.int .u8 0) 1 tyBs hi5 hz0 hz1 hz2 rfl _ (by exact rfl) _ _ _ (by exact rfl) hown (by exact rfl) (by unfold maxLen; omega) (by omega) hb (Nat.le_refl _) ?_; intro v' w' hown' hb' _)
        go_roundg (P.length - (k + 1))
        case rel =>
          refine ⟨k + 1, n + 1, by omega, rfl, by go_num, HN2, by omega, ?_, hb'⟩
          rw [HR.out]
          exact hown'
        case measure => rw [HG.out]; omega
      · by_cases h2 : p < 2048
        · have d128 : decide ((p : Int) < 128) = false := decide_eq_false (by omega)
          have d2048 : decide ((p : Int) < 2048) = true := decide_eq_true (by omega)
          obtain ⟨x0, hx0⟩ : ∃ x0, x0 = 192 + p / 64 := ⟨_, rfl⟩
          have hb0 : x0 < 256 := by omega
          obtain ⟨x1, hx1⟩ : ∃ x1, x1 = 128 + p % 64 := ⟨_, rfl⟩
          have hb1 : x1 < 256 := by omega
          obtain ⟨ypd64, hypd64⟩ : ∃ ypd64, ypd64 = p / 64 := ⟨_, rfl⟩
          have iypd64 : Int.tdiv (p : Int) 64 = (ypd64 : Int) := by rw [hypd64]; exact div_int p 64
          have bypd64 : (ypd64 : Int) ≤ 1114111 := by omega
          have s0 : (192 : Int) + (ypd64 : Int) = (x0 : Int) := by omega
          obtain ⟨ypm64, hypm64⟩ : ∃ ypm64, ypm64 = p % 64 := ⟨_, rfl⟩
          have iypm64 : Int.tmod (p : Int) 64 = (ypm64 : Int) := by rw [hypm64]; exact mod_int p 64
          have bypm64 : (ypm64 : Int) ≤ 1114111 := by omega
          have s1 : (128 : Int) + (ypm64 : Int) = (x1 : Int) := by omega
          have HT : Hid (txt8 p = [UInt8.ofNat x0, UInt8.ofNat x1]) := by show _ = _; unfold txt8; rw [if_neg (by omega), if_pos (by omega)]; rw [← hx0, ← hx1]
          have HV : Hid ([UInt8.ofNat x0, UInt8.ofNat x1].map bv = [.int .u8 (x0 : Int), .int .u8 (x1 : Int)]) := Lib.hid (by simp only [List.map_cons, List.map_nil, bv8 hb0, bv8 hb1])
          have HN2 : Hid ((txtL (P.take (k + 1))).length = n + 2) := by show _ = _; rw [HSN.out, List.length_append, HN.out, HT.out]; rfl
          have HR : Hid ((txtL (P.take (k + 1))).map bv = (txtL (P.take k)).map bv ++ [.int .u8 (x0 : Int), .int .u8 (x1 : Int)]) := by show _ = _; rw [HSN.out, List.map_append, HT.out, HV.out]
          clear hx0 hx1 hypd64 hypm64
          have hbA := hb.alloc hb.size (.cells #[.int .u8 (x0 : Int), .int .u8 (x1 : Int)] 5)
          have hownA := hown.alloc (.cells #[.int .u8 (x0 : Int), .int .u8 (x1 : Int)] 5)
          have hhA := Has.laid wr 5 #[.int .u8 (x0 : Int), .int .u8 (x1 : Int)] (0, 0) 2 [.int .u8 (x0 : Int), .int .u8 (x1 : Int)] rfl rfl
          have h1A : ∀ u ∈ [Value.int .u8 (x0 : Int), Value.int .u8 (x1 : Int)], u.oneCell' = true := by rw [← HV.out]; exact one_bytes _
          have HX := Lib.hid (And.intro hbA (And.intro hownA (And.intro hhA h1A)))
          clear hbA hownA hhA h1A
          go_wp2_with (at_builtin; refine wpList_app_has _ rfl _ _ 41 rfl w.heap.size 5 i5 (.int .u8 0) 1 tyBs hi5 hz0 hz1 hz2 rfl _ n _ (by exact rfl) HX.out.2.1 _ 2 2 _ _ (by exact rfl) (by intro e; cases e) HX.out.2.2.1 HX.out.2.2.2 (by unfold maxLen; omega) (by omega) HX.out.1 (Nat.le_refl _) ?_; intro v' w' hown' hb' _)
          go_roundg (P.length - (k + 1))
          case rel =>
            refine ⟨k + 1, n + 2, by omega, rfl, by go_num, HN2, by omega, ?_, hb'⟩
            rw [HR.out]
            exact hown'
          case measure => rw [HG.out]; omega
        · by_cases h3 : p < 65536
          · have d128 : decide ((p : Int) < 128) = false := decide_eq_false (by omega)
            have d2048 : decide ((p : Int) < 2048) = false := decide_eq_false (by omega)
            have d65536 : decide ((p : Int) < 65536) = true := decide_eq_true (by omega)
            obtain ⟨x0, hx0⟩ : ∃ x0, x0 = 224 + p / 4096 := ⟨_, rfl⟩
            have hb0 : x0 < 256 := by omega
            obtain ⟨x1, hx1⟩ : ∃ x1, x1 = 128 + p / 64 % 64 := ⟨_, rfl⟩
            have hb1 : x1 < 256 := by omega
            obtain ⟨x2, hx2⟩ : ∃ x2, x2 = 128 + p % 64 := ⟨_, rfl⟩
            have hb2 : x2 < 256 := by omega
            obtain ⟨ypd4096, hypd4096⟩ : ∃ ypd4096, ypd4096 = p / 4096 := ⟨_, rfl⟩
            have iypd4096 : Int.tdiv (p : Int) 4096 = (ypd4096 : Int) := by rw [hypd4096]; exact div_int p 4096
            have bypd4096 : (ypd4096 : Int) ≤ 1114111 := by omega
            have s0 : (224 : Int) + (ypd4096 : Int) = (x0 : Int) := by omega
            obtain ⟨ypd64, hypd64⟩ : ∃ ypd64, ypd64 = p / 64 := ⟨_, rfl⟩
            have iypd64 : Int.tdiv (p : Int) 64 = (ypd64 : Int) := by rw [hypd64]; exact div_int p 64
            have bypd64 : (ypd64 : Int) ≤ 1114111 := by omega
            obtain ⟨yypd64m64, hyypd64m64⟩ : ∃ yypd64m64, yypd64m64 = ypd64 % 64 := ⟨_, rfl⟩
            have iyypd64m64 : Int.tmod (ypd64 : Int) 64 = (yypd64m64 : Int) := by rw [hyypd64m64]; exact mod_int ypd64 64
            have byypd64m64 : (yypd64m64 : Int) ≤ 1114111 := by omega
            have s1 : (128 : Int) + (yypd64m64 : Int) = (x1 : Int) := by omega
            obtain ⟨ypm64, hypm64⟩ : ∃ ypm64, ypm64 = p % 64 := ⟨_, rfl⟩
            have iypm64 : Int.tmod (p : Int) 64 = (ypm64 : Int) := by rw [hypm64]; exact mod_int p 64
            have bypm64 : (ypm64 : Int) ≤ 1114111 := by omega
            have s2 : (128 : Int) + (ypm64 : Int) = (x2 : Int) := by omega
            have HT : Hid (txt8 p = [UInt8.ofNat x0, UInt8.ofNat x1, UInt8.ofNat x2]) := by show _ = _; unfold txt8; rw [if_neg (by omega), if_neg (by omega), if_pos (by omega)]; rw [← hx0, ← hx1, ← hx2]
            have HV : Hid ([UInt8.ofNat x0, UInt8.ofNat x1, UInt8.ofNat x2].map bv = [.int .u8 (x0 : Int), .int .u8 (x1 : Int), .int .u8 (x2 : Int)]) := Lib.hid (by simp only [List.map_cons, List.map_nil, bv8 hb0, bv8 hb1, bv8 hb2])
            have HN2 : Hid ((txtL (P.take (k + 1))).length = n + 3) := by show _ = _; rw [HSN.out, List.length_append, HN.out, HT.out]; rfl
            have HR : Hid ((txtL (P.take (k + 1))).map bv = (txtL (P.take k)).map bv ++ [.int .u8 (x0 : Int), .int .u8 (x1 : Int), .int .u8 (x2 : Int)]) := by show _ = _; rw [HSN.out, List.map_append, HT.out, HV.out]
            clear hx0 hx1 hx2 hypd4096 hypd64 hyypd64m64 hypm64
            have hbA := hb.alloc hb.size (.cells #[.int .u8 (x0 : Int), .int .u8 (x1 : Int), .int .u8 (x2 : Int)] 5)
            have hownA := hown.alloc (.cells #[.int .u8 (x0 : Int), .int .u8 (x1 : Int), .int .u8 (x2 : Int)] 5)
            have hhA := Has.laid wr 5 #[.int .u8 (x0 : Int), .int .u8 (x1 : Int), .int .u8 (x2 : Int)] (0, 0) 3 [.int .u8 (x0 : Int), .int .u8 (x1 : Int), .int .u8 (x2 : Int)] rfl rfl
            have h1A : ∀ u ∈ [Value.int .u8 (x0 : Int), Value.int .u8 (x1 : Int), Value.int .u8 (x2 : Int)], u.oneCell' = true := by rw [← HV.out]; exact one_bytes _
            have HX := Lib.hid (And.intro hbA (And.intro hownA (And.intro hhA h1A)))
            clear hbA hownA hhA h1A
            go_wp2_with (at_builtin; refine wpList_app_has _ rfl _ _ 41 rfl w.heap.size 5 i5 (.int .u8 0) 1 tyBs hi5 hz0 hz1 hz2 rfl _ n _ (by exact rfl) HX.out.2.1 _ 3 3 _ _ (by exact rfl) (by intro e; cases e) HX.out.2.2.1 HX.out.2.2.2 (by unfold maxLen; omega) (by omega) HX.out.1 (Nat.le_refl _) ?_; intro v' w' hown' hb' _)
            go_roundg (P.length - (k + 1))
            case rel =>
              refine ⟨k + 1, n + 3, by omega, rfl, by go_num, HN2, by omega, ?_, hb'⟩
              rw [HR.out]
              exact hown'
            case measure => rw [HG.out]; omega
          · have d128 : decide ((p : Int) < 128) = false := decide_eq_false (by omega)
            have d2048 : decide ((p : Int) < 2048) = false := decide_eq_false (by omega)
            have d65536 : decide ((p : Int) < 65536) = false := decide_eq_false (by omega)
            obtain ⟨x0, hx0⟩ : ∃ x0, x0 = 240 + p / 262144 := ⟨_, rfl⟩
            have hb0 : x0 < 256 := by omega
            obtain ⟨x1, hx1⟩ : ∃ x1, x1 = 128 + p / 4096 % 64 := ⟨_, rfl⟩
            have hb1 : x1 < 256 := by omega
            obtain ⟨x2, hx2⟩ : ∃ x2, x2 = 128 + p / 64 % 64 := ⟨_, rfl⟩
            have hb2 : x2 < 256 := by omega
            obtain ⟨x3, hx3⟩ : ∃ x3, x3 = 128 + p % 64 := ⟨_, rfl⟩
            have hb3 : x3 < 256 := by omega
            obtain ⟨ypd262144, hypd262144⟩ : ∃ ypd262144, ypd262144 = p / 262144 := ⟨_, rfl⟩
            have iypd262144 : Int.tdiv (p : Int) 262144 = (ypd262144 : Int) := by rw [hypd262144]; exact div_int p 262144
            have bypd262144 : (ypd262144 : Int) ≤ 1114111 := by omega
            have s0 : (240 : Int) + (ypd262144 : Int) = (x0 : Int) := by omega
            obtain ⟨ypd4096, hypd4096⟩ : ∃ ypd4096, ypd4096 = p / 4096 := ⟨_, rfl⟩
            have iypd4096 : Int.tdiv (p : Int) 4096 = (ypd4096 : Int) := by rw [hypd4096]; exact div_int p 4096
            have bypd4096 : (ypd4096 : Int) ≤ 1114111 := by omega
            obtain ⟨yypd4096m64, hyypd4096m64⟩ : ∃ yypd4096m64, yypd4096m64 = ypd4096 % 64 := ⟨_, rfl⟩
            have iyypd4096m64 : Int.tmod (ypd4096 : Int) 64 = (yypd4096m64 : Int) := by rw [hyypd4096m64]; exact mod_int ypd4096 64
            have byypd4096m64 : (yypd4096m64 : Int) ≤ 1114111 := by omega
            have s1 : (128 : Int) + (yypd4096m64 : Int) = (x1 : Int) := by omega
            obtain ⟨ypd64, hypd64⟩ : ∃ ypd64, ypd64 = p / 64 := ⟨_, rfl⟩
            have iypd64 : Int.tdiv (p : Int) 64 = (ypd64 : Int) := by rw [hypd64]; exact div_int p 64
            have bypd64 : (ypd64 : Int) ≤ 1114111 := by omega
            obtain ⟨yypd64m64, hyypd64m64⟩ : ∃ yypd64m64, yypd64m64 = ypd64 % 64 := ⟨_, rfl⟩
            have iyypd64m64 : Int.tmod (ypd64 : Int) 64 = (yypd64m64 : Int) := by rw [hyypd64m64]; exact mod_int ypd64 64
            have byypd64m64 : (yypd64m64 : Int) ≤ 1114111 := by omega
            have s2 : (128 : Int) + (yypd64m64 : Int) = (x2 : Int) := by omega
            obtain ⟨ypm64, hypm64⟩ : ∃ ypm64, ypm64 = p % 64 := ⟨_, rfl⟩
            have iypm64 : Int.tmod (p : Int) 64 = (ypm64 : Int) := by rw [hypm64]; exact mod_int p 64
            have bypm64 : (ypm64 : Int) ≤ 1114111 := by omega
            have s3 : (128 : Int) + (ypm64 : Int) = (x3 : Int) := by omega
            have HT : Hid (txt8 p = [UInt8.ofNat x0, UInt8.ofNat x1, UInt8.ofNat x2, UInt8.ofNat x3]) := by show _ = _; unfold txt8; rw [if_neg (by omega), if_neg (by omega), if_neg (by omega)]; rw [← hx0, ← hx1, ← hx2, ← hx3]
            have HV : Hid ([UInt8.ofNat x0, UInt8.ofNat x1, UInt8.ofNat x2, UInt8.ofNat x3].map bv = [.int .u8 (x0 : Int), .int .u8 (x1 : Int), .int .u8 (x2 : Int), .int .u8 (x3 : Int)]) := Lib.hid (by simp only [List.map_cons, List.map_nil, bv8 hb0, bv8 hb1, bv8 hb2, bv8 hb3])
            have HN2 : Hid ((txtL (P.take (k + 1))).length = n + 4) := by show _ = _; rw [HSN.out, List.length_append, HN.out, HT.out]; rfl
            have HR : Hid ((txtL (P.take (k + 1))).map bv = (txtL (P.take k)).map bv ++ [.int .u8 (x0 : Int), .int .u8 (x1 : Int), .int .u8 (x2 : Int), .int .u8 (x3 : Int)]) := by show _ = _; rw [HSN.out, List.map_append, HT.out, HV.out]
            clear hx0 hx1 hx2 hx3 hypd262144 hypd4096 hyypd4096m64 hypd64 hyypd64m64 hypm64
            have hbA := hb.alloc hb.size (.cells #[.int .u8 (x0 : Int), .int .u8 (x1 : Int), .int .u8 (x2 : Int), .int .u8 (x3 : Int)] 5)
            have hownA := hown.alloc (.cells #[.int .u8 (x0 : Int), .int .u8 (x1 : Int), .int .u8 (x2 : Int), .int .u8 (x3 : Int)] 5)
            have hhA := Has.laid wr 5 #[.int .u8 (x0 : Int), .int .u8 (x1 : Int), .int .u8 (x2 : Int), .int .u8 (x3 : Int)] (0, 0) 4 [.int .u8 (x0 : Int), .int .u8 (x1 : Int), .int .u8 (x2 : Int), .int .u8 (x3 : Int)] rfl rfl
            have h1A : ∀ u ∈ [Value.int .u8 (x0 : Int), Value.int .u8 (x1 : Int), Value.int .u8 (x2 : Int), Value.int .u8 (x3 : Int)], u.oneCell' = true := by rw [← HV.out]; exact one_bytes _
            have HX := Lib.hid (And.intro hbA (And.intro hownA (And.intro hhA h1A)))
            clear hbA hownA hhA h1A
            go_wp2_with (at_builtin; refine wpList_app_has _ rfl _ _ 41 rfl w.heap.size 5 i5 (.int .u8 0) 1 tyBs hi5 hz0 hz1 hz2 rfl _ n _ (by exact rfl) HX.out.2.1 _ 4 4 _ _ (by exact rfl) (by intro e; cases e) HX.out.2.2.1 HX.out.2.2.2 (by unfold maxLen; omega) (by omega) HX.out.1 (Nat.le_refl _) ?_; intro v' w' hown' hb' _)
            go_roundg (P.length - (k + 1))
            case rel =>
              refine ⟨k + 1, n + 4, by omega, rfl, by go_num, HN2, by omega, ?_, hb'⟩
              rw [HR.out]
              exact hown'
            case measure => rw [HG.out]; omega
    · obtain rfl : k = P.length := by omega
      have hkd : decide ((P.length : Int) < (P.length : Int)) = false := by simp
      rw [List.take_length] at hown
      have hconv := str_owned wr _ _ _ _ hown
      go_wp2
      go_ret
      exact ⟨rfl, hb⟩

end Go.Proofs.YtoieapdfpbcfpaaDoor
