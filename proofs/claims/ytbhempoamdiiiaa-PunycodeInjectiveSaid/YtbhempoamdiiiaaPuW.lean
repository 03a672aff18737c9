/-
  The walks of PunycodeEncodeMatchesSpec, PunycodeRoundTrip and PunycodeInjective: they return true.
-/
import Derived.Test.YtbhempoamdiiiaaPuO
import Derived.Test.YtbhempoamdiiiaaPu3
import Derived.Test.YtbhempoamdiiiaaKpI
namespace Go.Proofs.Ytbhempoamdiiiaa
open Go.RowKit

theorem one_zv (Z : List Int) : ∀ u ∈ Z.map (Value.int .i64), u.oneCell' = true := by
  intro u hu
  obtain ⟨x, _, rfl⟩ := List.mem_map.1 hu
  rfl

set_option maxRecDepth 20000 in
set_option maxHeartbeats 2000000 in
theorem walkPuEnc (hE : PuEnc 9) (hD : PuDec 12) (A : Option Addr) (len cap : Nat) (w : World) (hIn : ∃ Z, InZ w w.heap.size A len cap Z) :
    Calls Try.prog 3 #[.slice A len cap] w (Yes w) := by
  obtain ⟨i3, hi3, hz0, hz1, hz2⟩ := info_parts infoInt
  obtain ⟨Z, hZ⟩ := hIn
  obtain rfl := hZ.len
  have c9 := awake12_any hE hD
  by_cases hlen : 300 < Z.length
  · have hd : decide ((300 : Int) < (Z.length : Int)) = true := decide_eq_true (by omega)
    go_enter Try.func3, Try.ntmps3
    go_wp2_with fail
    refine (c9 _).mono ?_
    rintro r w2 ⟨rfl, hb2⟩
    go_wp2
    go_ret
    exact ⟨rfl, hb2⟩
  · have hd : decide ((300 : Int) < (Z.length : Int)) = false := decide_eq_false (by omega)
    have hb0 := (Below.refl w.heap.size w).alloc (Nat.le_refl _) (.cells #[] 3)
    have hown0 := own_empty w 3
    have hhas := hZ.has.alloc (Nat.le_refl _) (.cells #[] 3)
    have hnil := hZ.nil
    have hh := hZ.has
    have HWF := Lib.hid hZ.wf
    have HZ := Lib.hid hZ
    clear hZ
    go_enter Try.func3, Try.ntmps3
    go_wp2_with (at_builtin; refine wpList_app_has _ rfl _ _ 22 rfl w.heap.size 3 i3 (.int .i64 0) 8 tyInts hi3 hz0 hz1 hz2 rfl _ 0 [] (by exact rfl) hown0 A Z.length cap _ (Z.map (Value.int .i64)) (by exact rfl) hnil hhas (one_zv Z) (by unfold maxLen; omega) (by omega) hb0 (Nat.le_refl _) ?_; intro v1 w1 hown1 hb1 _)
    rw [List.nil_append, Nat.zero_add] at hown1
    obtain ⟨A1, c1, rfl, hin1⟩ := inZ_own hown1 HWF.out
    have cE := hE Z A1 Z.length c1 _ w1 hin1 (Nat.le_refl _) (by omega)
    have h1 := hin1.has
    have cR := fun W hW => refEnc_any Z A Z.length cap w.heap.size W hW
    obtain ⟨X, hX⟩ : ∃ X, X = bs (encL Z).2 := ⟨_, rfl⟩
    obtain ⟨n, hn⟩ : ∃ n : Nat, n = (encL Z).1 := ⟨_, rfl⟩
    rw [← hX, ← hn] at cE
    rw [← hX, ← hn] at cR
    have eS : (X.toList == X.toList) = true := by simp
    have eN : ((n : Int) == (n : Int)) = true := by simp
    clear hhas hown0 hb0 hnil hX hn
    refine cE.mono ?_
    rintro r w2 ⟨rfl, hb2⟩
    have h1b := h1.below hb2
    have hs2 := hb2.size
    replace hb2 := hb1.trans (hb2.mono hb1.size)
    go_wp2_with fail
    refine (cR _ (hh.below hb2) hb2.size).mono ?_
    rintro r w3 ⟨rfl, hb3⟩
    have h1c := h1b.below' hb3 hs2
    have hs3 := Nat.le_trans hs2 hb3.size
    replace hb3 := hb2.trans (hb3.mono hb2.size)
    have hin3 := hh.below hb3
    have cI := ints_any A1 A Z.length c1 Z.length cap w3.heap.size Z w3 (h1c.more hs3) (hin3.more hb3.size) (by omega) (Nat.le_refl _)
    go_wp2_with fail
    refine cI.mono ?_
    rintro r w4 ⟨rfl, hb4⟩
    replace hb4 := hb3.trans (hb4.mono hb3.size)
    go_wp2_with fail
    refine (c9 _).mono ?_
    rintro r w5 ⟨rfl, hb5⟩
    replace hb5 := hb4.trans (hb5.mono hb4.size)
    go_wp2
    go_ret
    exact ⟨rfl, hb5⟩

set_option maxRecDepth 20000 in
set_option maxHeartbeats 2000000 in
theorem walkPuInj (hE : PuEnc 9) (hD : PuDec 12) (s : ByteArray) (w : World) (_ : s.size ≤ maxLen) :
    Calls Try.prog 7 #[.string s] w (Yes w) := by
  have c9 := awake12_any hE hD
  by_cases hlen : 200 < s.size
  · have hd : decide ((200 : Int) < (s.size : Int)) = true := decide_eq_true (by omega)
    go_enter Try.func7, Try.ntmps7
    go_wp2_with fail
    refine (c9 _).mono ?_
    rintro r w2 ⟨rfl, hb2⟩
    go_wp2
    go_ret
    exact ⟨rfl, hb2⟩
  · have hd : decide ((200 : Int) < (s.size : Int)) = false := decide_eq_false (by omega)
    have c1 := hD s w (by omega)
    cases hdec : decL (ls s) with
    | error c =>
      have hne := dec_err_ne hdec
      obtain ⟨h1, h2⟩ := dec_err hdec
      have hc : ((c : Int) != 0) = true := by rw [bne_iff_ne]; omega
      have hcN : (c != 0) = true := by rw [bne_iff_ne]; exact hne
      have H1 := Lib.hid h1
      have H2 := Lib.hid h2
      clear hdec h1 h2
      go_enter Try.func7, Try.ntmps7
      go_wp2_with fail
      refine c1.mono ?_
      rintro r w1 ⟨⟨v, rfl, hown⟩, hb1⟩
      rw [H2.out] at hown
      rw [H1.out]
      obtain ⟨A1, c1', rfl, _, _⟩ := Has.of_own hown
      simp only [List.length_nil] at hown
      go_wp2_with fail
      refine (c9 _).mono ?_
      rintro r w2 ⟨rfl, hb2⟩
      replace hb2 := hb1.trans (hb2.mono hb1.size)
      go_wp2
      go_ret
      exact ⟨rfl, hb2⟩
    | ok p =>
      obtain ⟨hP, hpl, hsz, hdd⟩ := enc_dec hdec
      obtain ⟨h1, h2⟩ := dec_ok hdec
      have hsb : (bs (encB p)).size = s.size := by rw [bs_size, hsz, ls_length]
      have cE := fun A c B W hin hB => hE (p.map (fun n : Nat => (n : Int))) A p.length c B W hin hB (by rw [List.length_map]; omega)
      rw [encL_of hP hpl] at cE
      have c2 := fun W => hD (bs (encB p)) W (by omega)
      rw [ls_bs] at c2
      obtain ⟨g1, g2⟩ := dec_ok hdd
      obtain ⟨X, hX⟩ : ∃ X, X = bs (encB p) := ⟨_, rfl⟩
      rw [show ((0 : Nat), encB p).2 = encB p from rfl, show (((0 : Nat), encB p).1 : Nat) = 0 from rfl, ← hX] at cE
      rw [← hX] at c2
      have hWF : ∀ z ∈ p.map (fun n : Nat => (n : Int)), -9223372036854775808 ≤ z ∧ z ≤ 9223372036854775807 := by
        intro z hz
        obtain ⟨x, hx, rfl⟩ := List.mem_map.1 hz
        exact pt_range (ptN_le (hP x hx))
      have HWF := Lib.hid hWF
      have H1 := Lib.hid h1
      have H2 := Lib.hid h2
      have G1 := Lib.hid g1
      have G2 := Lib.hid g2
      have hll : (p.map (fun n : Nat => (n : Int))).length ≤ 1000000 := by rw [List.length_map]; omega
      clear hdec h1 h2 g1 g2 hP hsz hdd hsb hX hWF
      go_enter Try.func7, Try.ntmps7
      go_wp2_with fail
      refine c1.mono ?_
      rintro r w1 ⟨⟨v, rfl, hown⟩, hb1⟩
      rw [H2.out, nvI_zv] at hown
      rw [H1.out]
      obtain ⟨A1, k1, rfl, hin1⟩ := inZ_own hown HWF.out
      have hh1 := hin1.has
      go_wp2_with fail
      refine (cE A1 k1 _ w1 hin1 (Nat.le_refl _)).mono ?_
      rintro r w2 ⟨rfl, hb2⟩
      have hh2 := hh1.below hb2
      have hs2 := hb2.size
      replace hb2 := hb1.trans (hb2.mono hb1.size)
      go_wp2_with fail
      refine (c2 _).mono ?_
      rintro r w3 ⟨⟨v3, rfl, hown3⟩, hb3⟩
      rw [G2.out, nvI_zv] at hown3
      rw [G1.out]
      obtain ⟨A3, k3, rfl, hin3⟩ := inZ_own hown3 HWF.out
      have hh3 := hh2.below' hb3 hs2
      have hs3 := Nat.le_trans hs2 hb3.size
      replace hb3 := hb2.trans (hb3.mono hb2.size)
      have cI := ints_any A1 A3 p.length k1 p.length k3 w3.heap.size _ w3 (hh3.more hs3) hin3.has hll (Nat.le_refl _)
      go_wp2_with fail
      refine cI.mono ?_
      rintro r w4 ⟨rfl, hb4⟩
      replace hb4 := hb3.trans (hb4.mono hb3.size)
      go_wp2_with fail
      refine (c9 _).mono ?_
      rintro r w5 ⟨rfl, hb5⟩
      replace hb5 := hb4.trans (hb5.mono hb4.size)
      go_wp2
      go_ret
      exact ⟨rfl, hb5⟩

set_option maxRecDepth 20000 in
set_option maxHeartbeats 4000000 in
theorem walkPuRT (hE : PuEnc 9) (hD : PuDec 12) (A : Option Addr) (len cap : Nat) (w : World) (hIn : ∃ Z, InZ w w.heap.size A len cap Z) :
    Calls Try.prog 5 #[.slice A len cap] w (Yes w) := by
  obtain ⟨Z, hZ⟩ := hIn
  obtain rfl := hZ.len
  have c9 := awake12_any hE hD
  by_cases hlen : 60 < Z.length
  · have hd : decide ((60 : Int) < (Z.length : Int)) = true := decide_eq_true (by omega)
    go_enter Try.func5, Try.ntmps5
    go_wp2_with fail
    refine (c9 _).mono ?_
    rintro r w2 ⟨rfl, hb2⟩
    go_wp2
    go_ret
    exact ⟨rfl, hb2⟩
  · have hd : decide ((60 : Int) < (Z.length : Int)) = false := decide_eq_false (by omega)
    have cE := hE Z A Z.length cap _ w hZ (Nat.le_refl _) (by omega)
    have hh := hZ.has
    have HH := Lib.hid hh
    have HWF := Lib.hid hZ.wf
    clear hZ
    by_cases hall : Z.all ptZ = true
    · obtain ⟨hP, hZP⟩ := all_pt hall
      have hPl : (Z.map Int.toNat).length = Z.length := List.length_map _
      obtain ⟨P, hPe⟩ : ∃ P, P = Z.map Int.toNat := ⟨_, rfl⟩
      rw [← hPe] at hP hZP hPl
      have hel : encL Z = (0, encB P) := by unfold encL; rw [if_neg (by omega), if_pos hall, hPe]
      have hbl := encB_len hP (by omega)
      have hdd := dec_enc hP (by omega) (by omega)
      obtain ⟨g1, g2⟩ := dec_ok hdd
      have c2 := fun W => hD (bs (encB P)) W (by rw [bs_size]; omega)
      rw [ls_bs] at c2
      rw [hel] at cE
      obtain ⟨X, hX⟩ : ∃ X, X = bs (encB P) := ⟨_, rfl⟩
      rw [show ((0 : Nat), encB P).2 = encB P from rfl, show (((0 : Nat), encB P).1 : Nat) = 0 from rfl, ← hX] at cE
      rw [← hX] at c2
      have HALL := Lib.hid hall
      have G1 := Lib.hid g1
      have G2 := Lib.hid g2
      have HZP := Lib.hid hZP
      have HPL := Lib.hid hPl
      clear hall hP hZP hPe hel hbl hdd g1 g2 hX hPl
      go_enter Try.func5, Try.ntmps5
      go_wp2_with fail
      refine cE.mono ?_
      rintro r w2 ⟨rfl, hb2⟩
      have hs2 := hb2.size
      go_wp2_with fail
      go_loop [5] (fun i => ∃ k : Nat, k ≤ Z.length ∧ i = .int .i64 k) (fun i => Z.length - (intOf i).toNat)
      case atStart => exact ⟨0, Nat.zero_le _, rfl⟩
      case round =>
        obtain ⟨k, hk, rfl⟩ := hrel
        by_cases hlt : k < Z.length
        · have hkd : decide ((k : Int) < (Z.length : Int)) = true := decide_eq_true (by omega)
          obtain ⟨b1, o1, rfl, l1, d1⟩ := HH.out.2 (by omega)
          have g1 := cell_zv HH.out hb2 (Nat.le_refl _) k hlt hlt
          have cP := refPoint_any Z[k]
          have hpt : ptZ Z[k] = true := List.all_eq_true.1 HALL.out _ (List.getElem_mem hlt)
          rw [hpt] at cP
          generalize Z[k] = z at *
          clear d1 hpt
          go_wp2_with (go_at_call 14; refine (cP _).mono ?_; rintro e w' ⟨rfl, rfl⟩)
          go_round
          case rel => exact ⟨k + 1, by omega, by go_num⟩
          case measure => simp [intOf]; omega
        · obtain rfl : k = Z.length := by omega
          have hkd : decide ((Z.length : Int) < (Z.length : Int)) = false := by simp
          go_wp2_with fail
          refine (c2 _).mono ?_
          rintro r w3 ⟨⟨v3, rfl, hown3⟩, hb3⟩
          rw [G2.out, nvI_zv, HZP.out, HPL.out] at hown3
          rw [G1.out]
          obtain ⟨A3, k3, rfl, hin3⟩ := inZ_own hown3 HWF.out
          have hh2 := HH.out.below hb2
          have hh3 := hh2.below' hb3 hs2
          have hs3 := Nat.le_trans hs2 hb3.size
          replace hb3 := hb2.trans (hb3.mono hb2.size)
          have cI := ints_any A3 A Z.length k3 Z.length cap w3.heap.size Z w3 hin3.has (hh3.more hs3) (by omega) (Nat.le_refl _)
          go_wp2_with fail
          refine cI.mono ?_
          rintro r w4 ⟨rfl, hb4⟩
          replace hb4 := hb3.trans (hb4.mono hb3.size)
          go_wp2_with fail
          refine (c9 _).mono ?_
          rintro r w5 ⟨rfl, hb5⟩
          replace hb5 := hb4.trans (hb5.mono hb4.size)
          go_wp2
          go_ret
          exact ⟨rfl, hb5⟩
    · have hel : encL Z = (2, []) := by unfold encL; rw [if_neg (by omega), if_neg hall]
      rw [hel, show bs ((2 : Nat), ([] : List UInt8)).2 = ⟨#[]⟩ from rfl, show (((2 : Nat), ([] : List UInt8)).1 : Nat) = 2 from rfl] at cE
      have HALL := Lib.hid hall
      clear hall hel
      go_enter Try.func5, Try.ntmps5
      go_wp2_with fail
      refine cE.mono ?_
      rintro r w2 ⟨rfl, hb2⟩
      go_wp2_with fail
      go_loop [5] (fun i => ∃ k : Nat, k ≤ Z.length ∧ i = .int .i64 k ∧ Hid ((Z.take k).all ptZ = true)) (fun i => Z.length - (intOf i).toNat)
      case atStart => exact ⟨0, Nat.zero_le _, rfl, Lib.hid rfl⟩
      case round =>
        obtain ⟨k, hk, rfl, HK⟩ := hrel
        by_cases hlt : k < Z.length
        · have hkd : decide ((k : Int) < (Z.length : Int)) = true := decide_eq_true (by omega)
          obtain ⟨b1, o1, rfl, l1, d1⟩ := HH.out.2 (by omega)
          have g1 := cell_zv HH.out hb2 (Nat.le_refl _) k hlt hlt
          have cP := refPoint_any Z[k]
          have htk : Z.take (k + 1) = Z.take k ++ [Z[k]] := List.take_succ_eq_append_getElem hlt
          obtain ⟨z, hz⟩ : ∃ z, z = Z[k] := ⟨_, rfl⟩
          rw [← hz] at g1 cP htk
          clear d1 hz
          cases hpt : ptZ z with
          | true =>
            have HK2 : Hid ((Z.take (k + 1)).all ptZ = true) := by
              show _ = _
              rw [htk, List.all_append, HK.out]
              simpa using hpt
            rw [hpt] at cP
            clear htk hpt
            go_wp2_with (go_at_call 14; refine (cP _).mono ?_; rintro e w' ⟨rfl, rfl⟩)
            go_round
            case rel => exact ⟨k + 1, by omega, by go_num, HK2⟩
            case measure => simp [intOf]; omega
          | false =>
            rw [hpt] at cP
            clear htk hpt
            go_wp2_with (first
              | (go_at_call 14; refine (cP _).mono ?_; rintro e w' ⟨rfl, rfl⟩)
              | (go_at_call 8; refine (c9 _).mono ?_; rintro r w5 ⟨rfl, hb5⟩))
            go_ret
            exact ⟨rfl, hb2.trans (hb5.mono hb2.size)⟩
        · exfalso
          have e : k = Z.length := by omega
          have := HK.out
          rw [e, List.take_length] at this
          exact HALL.out this

end Go.Proofs.Ytbhempoamdiiiaa
