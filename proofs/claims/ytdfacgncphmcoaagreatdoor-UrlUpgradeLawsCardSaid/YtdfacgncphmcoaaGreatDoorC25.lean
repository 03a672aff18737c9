/-
Contract of Lower of package ascii.
parse, Parse, Valid, Format of package url.
Parse, Valid, Format, Port, Insecure of package url.
Upgrade of package url.
What is parsed is small and good.
-/
import Derived.Test.YtdfacgncphmcoaaGreatDoorC07
import Derived.Test.YtdfacgncphmcoaaGreatDoorC01
import Derived.Test.YtdfacgncphmcoaaGreatDoorC24
namespace Go.Proofs.YtdfacgncphmcoaaGreatDoor
section
open Go.RowKit
set_option maxHeartbeats 400000 in
theorem isUpper_any (b : Int) (w : World) : Calls Tryz.prog 104 #[.int .u8 b] w fun e w' => e = .returned (.bool (upperB b)) ∧ w = w' := by
  go_enter Tryz.func104, Tryz.ntmps104
  go_wp2
  all_goals
    go_ret
    exact ⟨ret_bool (by first | (simp [upperB, *]; done) | (simp [upperB, *]; omega)), rfl⟩
set_option maxHeartbeats 400000 in
theorem lowerByte_any (b : Int) (h0 : 0 ≤ b) (h1 : b ≤ 255) (w : World) : Calls Tryz.prog 81 #[.int .u8 b] w fun e w' => e = .returned (.int .u8 (lowI b)) ∧ w = w' := by
  by_cases hu : upperB b = true
  · have hb : b ≤ 90 := by simp [upperB] at hu; omega
    go_enter Tryz.func81, Tryz.ntmps81
    go_wp2_with (go_at_call 104; refine (isUpper_any _ _).mono ?_; rintro e w' ⟨rfl, rfl⟩)
    go_ret
    exact ⟨ret_int (by simp [lowI, hu]), rfl⟩
  · have hu' : upperB b = false := by simpa using hu
    clear hu
    go_enter Tryz.func81, Tryz.ntmps81
    go_wp2_with (go_at_call 104; refine (isUpper_any _ _).mono ?_; rintro e w' ⟨rfl, rfl⟩)
    go_ret
    exact ⟨ret_int (by simp [lowI, hu']), rfl⟩
theorem lowerByte_u8 (c : UInt8) (w : World) : Calls Tryz.prog 81 #[.int .u8 (c.toNat : Int)] w fun e w' => e = .returned (.int .u8 ((lowU c).toNat : Int)) ∧ w = w' := by
  have := byte_lt c
  rw [lowU_toNat]
  exact lowerByte_any _ (by omega) (by omega) w
/-- make([]byte, n) for a length that is a natural number. -/
theorem mk_bytes (w : World) (n : Nat) (hn : n ≤ 281474976710656) : (Instr.makeSlice 40 (.int .i64 (n : Int)) (.int .i64 (n : Int))).run Tryz.prog w =
    .ok (.slice (some ⟨w.heap.size, 0, none⟩) n n) (w.alloc (.cells (zeros n) 5)) := by
  obtain ⟨i, hi, hz0, hz1, hz2⟩ := info_parts infoU8
  have h := run_make (P := Tryz.prog) w 40 5 i (.int .u8 0) tyBs hi hz0 .i64 .i64 n n (by omega) (by omega) (by rw [hz2]; omega) (by omega)
  rw [hz1] at h
  simpa [made_u8, Value.cells] using h
/-- string(b) of a row that is full of the bytes l. -/
theorem str_bytes (w : World) (b off n c : Nat) (l : List UInt8) (hl : l.length = n) (hc : ∀ j, j < n → w.cell? ⟨b, off + j, none⟩ = some (.int .u8 ((l.map fun c => (c.toNat : Int)).getD j 0))) :
    (convert 40 9 (.slice (some ⟨b, off, none⟩) n c)).run Tryz.prog w = .ok (.string (bs l)) w := by
  rw [run_convert_bytes_arg w 40 5 tyBs tyU8 b off n c (l.map fun c => (c.toNat : Int)) (by simpa using hl) hc 9 tyStr, strOfNums_bytes]
set_option maxHeartbeats 1000000 in
theorem lower_any (s : ByteArray) (w : World) (hs : s.size ≤ 1000000000) :
    Calls Tryz.prog 60 #[.string s] w fun e w' => e = .returned (.string (lowS s)) ∧ Below w.heap.size w w' := by
  have hmk := mk_bytes w s.size (by omega)
  have hconv := str_bytes (w.alloc (.cells (fillRow (lowL (ls s)) s.size s.size) 5)) w.heap.size 0 s.size s.size (lowL (ls s)) (by rw [lowL_length, ls_length]) (by
    intro j hj
    rw [World.cell?_alloc_at _ _ _ _ rfl, Nat.zero_add]
    exact fillRow_all _ _ _ (by rw [lowL_length, ls_length]) hj)
  go_enter Tryz.func60, Tryz.ntmps60
  go_wp2
  go_loopw [10] (fun i wr => ∃ k : Nat, k ≤ s.size ∧ i = .int .i64 k ∧ wr = w.alloc (.cells (fillRow (lowL (ls s)) s.size k) 5)) (fun i _ => s.size - (intOf i).toNat)
  case atStart => exact ⟨0, Nat.zero_le _, rfl, by rw [fillRow_zero]⟩
  case round =>
    obtain ⟨k, hk, rfl, rfl⟩ := hrel
    by_cases hlt : k < s.size
    · have hck := fillRow_next (lowL (ls s)) s.size k (by rw [lowL_length, ls_length]) hlt
      have hset : Hid (((fillRow (lowL (ls s)) s.size k).setIfInBounds k (.int .u8 ((lowU s[k]).toNat : Int))) = fillRow (lowL (ls s)) s.size (k + 1)) :=
        fillRow_set _ _ _ (by rw [lowL_length, ls_length]) hlt _ (by simp only [lowL, List.getElem?_map, ls_get s k hlt, Option.map_some])
      go_wp2_with (go_at_call 81; refine (lowerByte_u8 _ _).mono ?_; rintro e w' ⟨rfl, rfl⟩)
      go_roundw
      case rel => exact ⟨k + 1, by omega, by go_num, by rw [hset.out]⟩
      case measure => simp [intOf]; omega
    · obtain rfl : k = s.size := by omega
      go_wp2
      go_ret
      exact ⟨rfl, (Below.refl _ _).alloc (Nat.le_refl _) _⟩
end

section
open Go.RowKit Go.Shelf
theorem urv_size (u : Uv) : u.cells.size = 15 := rfl
theorem urv_one (u : Uv) : u.cells.all (·.oneCell') = true := uc_one _ _ _ _ _ _ _ _
theorem low_len (l : List UInt8) : (lowL l).length = l.length := by unfold lowL; simp
set_option maxRecDepth 20000 in
set_option maxHeartbeats 4000000 in
theorem parse_any (hPar : HoPar 86) (s : ByteArray) (w : World) (zs : s.size ≤ 999999999) (hw : Uw w) :
    Calls Tryz.prog 39 #[.string s] w (UrlPost w (parseU (ls s))) := by
  have c1 := fun W => excl_any s W (by omega)
  by_cases h1 : (ls s).any exclB = true
  · have HP : Hid (parseU (ls s) = (4, uv0)) := Lib.hid (by unfold parseU; rw [if_pos h1])
    rw [h1] at c1
    clear h1 hw
    go_enter Tryz.func39, Tryz.ntmps39
    go_wp2_with (first
      | (refine wpList_alloc_arr _ rfl 2 rfl _ rfl uz zeroUrl ?_
         intro W1 g2 hg2 hl2 hr2 hG
         have hbw := below_row0 (Below.refl w.heap.size w) hG (Nat.le_refl _))
      | (go_at_call 56; refine (c1 _).mono ?_; rintro e w5 ⟨rfl, hb5⟩
         replace hr2 : RowU w5 g2 uz := Row.below hr2 hb5 (Row.lt hr2)
         replace hbw := hbw.trans (hb5.mono hbw.size)
         clear hb5)
      | (refine wpList_store_url rfl rfl _ _ rfl g2 (by exact rfl) uz (by exact rfl) uz hr2 rfl rfl (uc_one _ _ _ _ _ _ _ _) ?_
         intro w7 hr7 hG7
         have hb7 := below_row hbw hG7 (Nat.le_refl _) hg2))
    exact ret_url 2 3 rfl g2 rfl uz hr7 rfl _ rfl rfl ⟨by rw [HP.out]; rfl, hb7⟩
  · have h1' : (ls s).any exclB = false := by simpa using h1
    rw [h1'] at c1
    have hP0 : parseU (ls s) = if ((ls s).any (isB 58) && schL (befL (isB 58) (ls s))) = true then
        (if specL (lowL (befL (isB 58) (ls s))) = true then specP (lowL (befL (isB 58) (ls s))) ((fromL (isB 58) (ls s)).drop 1) else (0, ⟨lowL (befL (isB 58) (ls s)), [], hv0, -1, (fromL (isB 58) (ls s)).drop 1⟩)) else (15, uv0) := by
      unfold parseU
      rw [if_neg h1]
    have c2 := fun W => scut_any s 58 W (by omega)
    unfold CutPost at c2
    have hlb := bef_len (isB 58) (ls s)
    rw [ls_length] at hlb
    have hld : ((fromL (isB 58) (ls s)).drop 1).length ≤ 999999999 := by rw [List.length_drop]; omega
    generalize (fromL (isB 58) (ls s)).drop 1 = R at *
    generalize befL (isB 58) (ls s) = B at *
    generalize (ls s).any (isB 58) = q at *
    have hlB : B.length ≤ 999999999 := by omega
    have zB : (bs B).size ≤ 1000000000 := by rw [bs_size]; omega
    have zR : (bs R).size ≤ 999999999 := by rw [bs_size]; exact hld
    have c3 := fun W => isScheme_any (bs B) W zB
    rw [ls_bs] at c3
    have HP0 := Lib.hid hP0
    have HW := Lib.hid hw
    clear h1 h1' hP0 hlb hld hw
    by_cases hq : (q && schL B) = true
    · obtain ⟨rfl, hs⟩ : q = true ∧ schL B = true := by simpa using hq
      rw [hs] at c3
      have c5 := fun W => lower_any (bs B) W zB
      have eL : lowS (bs B) = bs (lowL B) := rfl
      rw [eL] at c5
      have hLl := low_len B
      have HP1 : Hid (parseU (ls s) = if specL (lowL B) = true then specP (lowL B) R else (0, ⟨lowL B, [], hv0, -1, R⟩)) := Lib.hid (by rw [HP0.out, if_pos hq])
      generalize lowL B = L at *
      have zL : (bs L).size ≤ 1000000000 := by rw [bs_size]; omega
      have c6 := fun W => special_any (bs L) W
      rw [ls_bs] at c6
      clear hq hs eL hLl HP0
      by_cases hsp : specL L = true
      · rw [hsp] at c6
        have HP : Hid (parseU (ls s) = specP L R) := Lib.hid (by rw [HP1.out, if_pos hsp])
        have c7 := fun W hW => parseS_any hPar (bs L) (bs R) W zL zR hW
        unfold UrlPost at c7
        rw [ls_bs, ls_bs] at c7
        have hC := urv_size (specP L R).2
        have hC1 := urv_one (specP L R).2
        obtain ⟨C, hCe⟩ : ∃ C, C = (specP L R).2.cells := ⟨_, rfl⟩
        obtain ⟨n, hn⟩ : ∃ n, n = (specP L R).1 := ⟨_, rfl⟩
        rw [← hCe] at c7 hC hC1
        rw [← hn] at c7
        have HC := Lib.hid hCe
        have HN := Lib.hid hn
        clear hsp hCe hn HP1
        go_enter Tryz.func39, Tryz.ntmps39
        go_wp2_with (first
          | (refine wpList_alloc_arr _ rfl 2 rfl _ rfl uz zeroUrl ?_
             intro W1 g2 hg2 hl2 hr2 hG
             have hbw := below_row0 (Below.refl w.heap.size w) hG (Nat.le_refl _))
          | (go_at_call 56; refine (c1 _).mono ?_; rintro e w5 ⟨rfl, hb5⟩
             replace hr2 : RowU w5 g2 uz := Row.below hr2 hb5 (Row.lt hr2)
             replace hbw := hbw.trans (hb5.mono hbw.size)
             clear hb5)
          | (go_at_call 58; refine (c2 _).mono ?_; rintro e w5 ⟨rfl, hb5⟩
             replace hr2 : RowU w5 g2 uz := Row.below hr2 hb5 (Row.lt hr2)
             replace hbw := hbw.trans (hb5.mono hbw.size)
             clear hb5)
          | (go_at_call 59; refine (c3 _).mono ?_; rintro e w5 ⟨rfl, rfl⟩)
          | (go_at_call 60; refine (c5 _).mono ?_; rintro e w5 ⟨rfl, hb5⟩
             replace hr2 : RowU w5 g2 uz := Row.below hr2 hb5 (Row.lt hr2)
             replace hbw := hbw.trans (hb5.mono hbw.size)
             clear hb5)
          | (go_at_call 19; refine (c6 _).mono ?_; rintro e w5 ⟨rfl, rfl⟩)
          | (go_at_call 61; refine (c7 _ (uw_below HW.out hbw)).mono ?_; rintro e w5 ⟨rfl, hb5⟩
             replace hr2 : RowU w5 g2 uz := Row.below hr2 hb5 (Row.lt hr2)
             replace hbw := hbw.trans (hb5.mono hbw.size)
             clear hb5)
          | (refine wpList_store_url rfl rfl _ _ rfl g2 (by exact rfl) C (by exact rfl) uz hr2 rfl hC hC1 ?_
             intro w7 hr7 hG7
             have hb7 := below_row hbw hG7 (Nat.le_refl _) hg2))
        exact ret_url 2 3 rfl g2 rfl C hr7 hC _ rfl rfl ⟨by rw [HP.out, ← HC.out, ← HN.out]; rfl, hb7⟩
      · have hsp' : specL L = false := by simpa using hsp
        rw [hsp'] at c6
        have HP : Hid (parseU (ls s) = (0, ⟨L, [], hv0, -1, R⟩)) := Lib.hid (by rw [HP1.out, if_neg hsp])
        have c7 := fun W => cl_any (bs R) W (by omega)
        have hC : (Uv.mk L [] hv0 (-1) R).cells = #[.string (bs L), .string ⟨#[]⟩, .int .i64 0, .string ⟨#[]⟩, .int .u32 0, .int .u16 0, .int .u16 0, .int .u16 0, .int .u16 0, .int .u16 0, .int .u16 0, .int .u16 0, .int .u16 0, .int .i64 (-1), .string (bs R)] := rfl
        have hC1 := urv_one (Uv.mk L [] hv0 (-1) R)
        rw [hC] at hC1
        have HC := Lib.hid hC
        clear hsp hsp' HP1 hC
        go_enter Tryz.func39, Tryz.ntmps39
        go_wp2_with (first
          | (refine wpList_alloc_arr _ rfl 2 rfl _ rfl uz zeroUrl ?_
             intro W1 g2 hg2 hl2 hr2 hG
             have hbw := below_row0 (Below.refl w.heap.size w) hG (Nat.le_refl _))
          | (go_at_call 56; refine (c1 _).mono ?_; rintro e w5 ⟨rfl, hb5⟩
             replace hr2 : RowU w5 g2 uz := Row.below hr2 hb5 (Row.lt hr2)
             replace hbw := hbw.trans (hb5.mono hbw.size)
             clear hb5)
          | (go_at_call 58; refine (c2 _).mono ?_; rintro e w5 ⟨rfl, hb5⟩
             replace hr2 : RowU w5 g2 uz := Row.below hr2 hb5 (Row.lt hr2)
             replace hbw := hbw.trans (hb5.mono hbw.size)
             clear hb5)
          | (go_at_call 59; refine (c3 _).mono ?_; rintro e w5 ⟨rfl, rfl⟩)
          | (go_at_call 60; refine (c5 _).mono ?_; rintro e w5 ⟨rfl, hb5⟩
             replace hr2 : RowU w5 g2 uz := Row.below hr2 hb5 (Row.lt hr2)
             replace hbw := hbw.trans (hb5.mono hbw.size)
             clear hb5)
          | (go_at_call 19; refine (c6 _).mono ?_; rintro e w5 ⟨rfl, rfl⟩)
          | (go_at_call 47; refine (c7 _).mono ?_; rintro e w5 ⟨rfl, hb5⟩
             replace hr2 : RowU w5 g2 uz := Row.below hr2 hb5 (Row.lt hr2)
             replace hbw := hbw.trans (hb5.mono hbw.size)
             clear hb5)
          | (refine wpList_store_url rfl rfl _ _ rfl g2 (by exact rfl) _ (by exact rfl) uz hr2 rfl rfl hC1 ?_
             intro w7 hr7 hG7
             have hb7 := below_row hbw hG7 (Nat.le_refl _) hg2))
        exact ret_url 2 3 rfl g2 rfl _ hr7 rfl _ rfl rfl ⟨by rw [HP.out]; show _ = Ending.returned (.tuple #[.agg (Uv.mk L [] hv0 (-1) R).cells, .int .i64 0]); rw [HC.out]; rfl, hb7⟩
    · have HP : Hid (parseU (ls s) = (15, uv0)) := Lib.hid (by rw [HP0.out, if_neg hq])
      cases q <;> (
        first
          | (have hq2 : schL B = false := by simpa using hq
             rw [hq2] at c3
             clear hq2)
          | skip
        clear hq
        go_enter Tryz.func39, Tryz.ntmps39
        go_wp2_with (first
          | (refine wpList_alloc_arr _ rfl 2 rfl _ rfl uz zeroUrl ?_
             intro W1 g2 hg2 hl2 hr2 hG
             have hbw := below_row0 (Below.refl w.heap.size w) hG (Nat.le_refl _))
          | (go_at_call 56; refine (c1 _).mono ?_; rintro e w5 ⟨rfl, hb5⟩
             replace hr2 : RowU w5 g2 uz := Row.below hr2 hb5 (Row.lt hr2)
             replace hbw := hbw.trans (hb5.mono hbw.size)
             clear hb5)
          | (go_at_call 58; refine (c2 _).mono ?_; rintro e w5 ⟨rfl, hb5⟩
             replace hr2 : RowU w5 g2 uz := Row.below hr2 hb5 (Row.lt hr2)
             replace hbw := hbw.trans (hb5.mono hbw.size)
             clear hb5)
          | (go_at_call 59; refine (c3 _).mono ?_; rintro e w5 ⟨rfl, rfl⟩)
          | (refine wpList_store_url rfl rfl _ _ rfl g2 (by exact rfl) uz (by exact rfl) uz hr2 rfl rfl (uc_one _ _ _ _ _ _ _ _) ?_
             intro w7 hr7 hG7
             have hb7 := below_row hbw hG7 (Nat.le_refl _) hg2))
        exact ret_url 2 3 rfl g2 rfl uz hr7 rfl _ rfl rfl ⟨by rw [HP.out]; rfl, hb7⟩)
end

section
open Go.RowKit Go.Shelf
set_option maxRecDepth 20000 in
set_option maxHeartbeats 2000000 in
theorem Parse_any (hPar : HoPar 86) (s : ByteArray) (w : World) (_ : s.size ≤ maxLen) (hw : Uw w) :
    Calls Tryz.prog 12 #[.string s] w (UrlPost w (parseUL (ls s))) := by
  by_cases h1 : 2048 < s.size
  · have HP : Hid (parseUL (ls s) = (3, uv0)) := Lib.hid (by unfold parseUL; rw [ls_length, if_pos h1])
    have hd : decide ((2048 : Int) < (s.size : Int)) = true := decide_eq_true (by omega)
    clear h1 hw
    go_enter Tryz.func12, Tryz.ntmps12
    go_wp2_with (first
      | (refine wpList_alloc_arr _ rfl 2 rfl _ rfl uz zeroUrl ?_
         intro W1 g2 hg2 hl2 hr2 hG
         have hbw := below_row0 (Below.refl w.heap.size w) hG (Nat.le_refl _))
      | (refine wpList_store_url rfl rfl _ _ rfl g2 (by exact rfl) uz (by exact rfl) uz hr2 rfl rfl (uc_one _ _ _ _ _ _ _ _) ?_
         intro w7 hr7 hG7
         have hb7 := below_row hbw hG7 (Nat.le_refl _) hg2))
    exact ret_url 2 3 rfl g2 rfl uz hr7 rfl _ rfl rfl ⟨by rw [HP.out]; rfl, hb7⟩
  · have HP : Hid (parseUL (ls s) = parseU (ls s)) := Lib.hid (by unfold parseUL; rw [ls_length, if_neg h1])
    have hd : decide ((2048 : Int) < (s.size : Int)) = false := decide_eq_false (by omega)
    have c7 := fun W hW => parse_any hPar s W (by omega) hW
    unfold UrlPost at c7
    have hC := urv_size (parseU (ls s)).2
    have hC1 := urv_one (parseU (ls s)).2
    obtain ⟨C, hCe⟩ : ∃ C, C = (parseU (ls s)).2.cells := ⟨_, rfl⟩
    obtain ⟨n, hn⟩ : ∃ n, n = (parseU (ls s)).1 := ⟨_, rfl⟩
    rw [← hCe] at c7 hC hC1
    rw [← hn] at c7
    have HC := Lib.hid hCe
    have HN := Lib.hid hn
    have HW := Lib.hid hw
    clear h1 hCe hn hw
    go_enter Tryz.func12, Tryz.ntmps12
    go_wp2_with (first
      | (refine wpList_alloc_arr _ rfl 2 rfl _ rfl uz zeroUrl ?_
         intro W1 g2 hg2 hl2 hr2 hG
         have hbw := below_row0 (Below.refl w.heap.size w) hG (Nat.le_refl _))
      | (go_at_call 39; refine (c7 _ (uw_below HW.out hbw)).mono ?_; rintro e w5 ⟨rfl, hb5⟩
         replace hr2 : RowU w5 g2 uz := Row.below hr2 hb5 (Row.lt hr2)
         replace hbw := hbw.trans (hb5.mono hbw.size)
         clear hb5)
      | (refine wpList_store_url rfl rfl _ _ rfl g2 (by exact rfl) C (by exact rfl) uz hr2 rfl hC hC1 ?_
         intro w7 hr7 hG7
         have hb7 := below_row hbw hG7 (Nat.le_refl _) hg2))
    exact ret_url 2 3 rfl g2 rfl C hr7 hC _ rfl rfl ⟨by rw [HP.out, ← HC.out, ← HN.out]; rfl, hb7⟩
theorem parseU_hwf (l : List UInt8) : (parseU l).2.host.Wf := by
  have h0 : hv0.Wf := hv0_wf
  have hs : ∀ sch r, (specP sch r).2.host.Wf := by
    intro sch r
    unfold specP
    split
    · unfold authP
      split
      · exact h0
      · unfold hostP
        split
        · split
          · exact h0
          · exact (parse_valid _).1
        · exact h0
    · exact h0
  unfold parseU
  split
  · exact h0
  · split
    · split
      · exact hs _ _
      · exact h0
    · exact h0
/-- Valid, of whatever port. -/
def validX (u : Uv) : Bool := decide ((parseU (textX u)).1 = 0) && eqU (parseU (textX u)).2 u
/-- What is asked of a URL that is handed in. -/
structure USm (u : Uv) : Prop where
  wf : u.host.Wf
  hn : u.host.name.length ≤ 100000000
  s1 : u.scheme.length ≤ 100000000
  s2 : u.user.length ≤ 100000000
  s3 : u.rest.length ≤ 100000000
  p0 : -9223372036854775808 ≤ u.port
  p1 : u.port ≤ 9223372036854775807
theorem textX_len {u : Uv} (h : USm u) : (textX u).length ≤ 999999999 := by
  have h1 := h.hn; have h2 := h.s1; have h3 := h.s2; have h4 := h.s3
  have h5 := fmtH_len h.wf
  have h6 := Lib.itoa_length_le _ h.p0 h.p1
  have h7 : (portX u.port).length ≤ 22 := by unfold portX; split <;> simp; omega
  have h8 : (userT u.user).length ≤ u.user.length + 1 := by unfold userT; split <;> simp
  unfold textX
  split
  · simp only [List.length_append, List.length_cons]
    omega
  · simp only [List.length_append, List.length_cons]
    omega
theorem text_sm (hF : HoFmt 65) {u : Uv} (h : USm u) (w : World) (hP : Pow6 w) :
    Calls Tryz.prog 41 #[.agg u.cells] w fun e w' => e = .returned (.string (bs (textX u))) ∧ Below w.heap.size w w' := by
  have h1 := h.hn; have h2 := h.s1; have h3 := h.s2; have h4 := h.s3
  exact text_any hF u h.wf (by omega) (by omega) (by omega) (by omega) h.p0 h.p1 w hP
set_option maxRecDepth 20000 in
set_option maxHeartbeats 2000000 in
theorem urlValid_any (hPar : HoPar 86) (hF : HoFmt 65) (u : Uv) (h : USm u) (w : World) (hw : Uw w) :
    Calls Tryz.prog 17 #[.agg u.cells] w fun e w' => e = .returned (.bool (validX u)) ∧ Below w.heap.size w w' := by
  have c1 := fun W hW => text_sm hF h W hW
  have c2 := fun W hW => parse_any hPar (bs (textX u)) W (by rw [bs_size]; exact textX_len h) hW
  unfold UrlPost at c2
  rw [ls_bs] at c2
  have hE := fun W => eq_url (parseU (textX u)).2 u (parseU_hwf _) h.wf W
  have hv : validX u = (decide ((parseU (textX u)).1 = 0) && eqU (parseU (textX u)).2 u) := rfl
  have hC := urv_size u
  have hC1 := urv_one u
  have hD := urv_size (parseU (textX u)).2
  have hD1 := urv_one (parseU (textX u)).2
  generalize eqU (parseU (textX u)).2 u = b at *
  generalize (parseU (textX u)).1 = n at *
  generalize (parseU (textX u)).2.cells = D at *
  generalize u.cells = C at *
  generalize bs (textX u) = T at *
  have HV := Lib.hid hv
  have HW := Lib.hid hw
  generalize validX u = V at *
  clear h hv hw
  by_cases hn : n = 0
  · subst hn
    go_enter Tryz.func17, Tryz.ntmps17
    go_wp2_with (first
      | (refine wpList_box_arr _ rfl 1 rfl _ _ rfl _ C (by exact rfl) (by exact rfl) ?_; intro W1 g1 hg1 hl1 hR1 hG1; have hbw := below_row0 (Below.refl w.heap.size w) hG1 (Nat.le_refl _))
      | (refine wpList_load_url (by rfl) _ rfl g1 (by exact rfl) C hR1 hC ?_)
      | (go_at_call 41; refine (c1 _ (uw_below HW.out hbw).1.1).mono ?_; rintro e w5 ⟨rfl, hb5⟩
         replace hR1 : RowU w5 g1 C := Row.below hR1 hb5 (Row.lt hR1)
         replace hbw := hbw.trans (hb5.mono hbw.size)
         clear hb5)
      | (go_at_call 39; refine (c2 _ (uw_below HW.out hbw)).mono ?_; rintro e w6 ⟨rfl, hb6⟩
         replace hR1 : RowU w6 g1 C := Row.below hR1 hb6 (Row.lt hR1)
         replace hbw := hbw.trans (hb6.mono hbw.size)
         clear hb6)
      | (refine wpList_alloc_arr _ rfl 3 rfl _ rfl uz zeroUrl ?_
         intro W3 g3 hg3 hl3 hr3 hG3
         have hne : g1 ≠ g3 := by have := Row.lt hR1; omega
         replace hR1 : RowU W3 g1 C := Row.grown0 hR1 hG3
         have h3 : w.heap.size ≤ g3 := by have := hbw.size; omega
         replace hbw := below_row0 hbw hG3 (Nat.le_refl _))
      | (refine wpList_store_url rfl rfl _ _ rfl g3 (by exact rfl) D (by exact rfl) uz hr3 rfl hD hD1 ?_
         intro w7 hr7 hG7
         replace hR1 : RowU w7 g1 C := Row.grown hR1 hG7 hne
         replace hbw := below_row hbw hG7 (Nat.le_refl _) h3)
      | (refine wpList_load_url (by rfl) _ rfl g3 (by exact rfl) D hr7 hD ?_))
    go_ret
    have e : V = b := HV.out.trans (by simp)
    exact ⟨by rw [e]; rfl, hbw⟩
  · have hn0 : ((n : Int) == 0) = false := by rw [beq_eq_false_iff_ne]; omega
    have e : Hid (V = false) := Lib.hid (HV.out.trans (by simp [hn]))
    clear hn HV
    go_enter Tryz.func17, Tryz.ntmps17
    go_wp2_with (first
      | (refine wpList_box_arr _ rfl 1 rfl _ _ rfl _ C (by exact rfl) (by exact rfl) ?_; intro W1 g1 hg1 hl1 hR1 hG1; have hbw := below_row0 (Below.refl w.heap.size w) hG1 (Nat.le_refl _))
      | (refine wpList_load_url (by rfl) _ rfl g1 (by exact rfl) C hR1 hC ?_)
      | (go_at_call 41; refine (c1 _ (uw_below HW.out hbw).1.1).mono ?_; rintro e w5 ⟨rfl, hb5⟩
         replace hR1 : RowU w5 g1 C := Row.below hR1 hb5 (Row.lt hR1)
         replace hbw := hbw.trans (hb5.mono hbw.size)
         clear hb5)
      | (go_at_call 39; refine (c2 _ (uw_below HW.out hbw)).mono ?_; rintro e w6 ⟨rfl, hb6⟩
         replace hR1 : RowU w6 g1 C := Row.below hR1 hb6 (Row.lt hR1)
         replace hbw := hbw.trans (hb6.mono hbw.size)
         clear hb6)
      | (refine wpList_alloc_arr _ rfl 3 rfl _ rfl uz zeroUrl ?_
         intro W3 g3 hg3 hl3 hr3 hG3
         have hne : g1 ≠ g3 := by have := Row.lt hR1; omega
         replace hR1 : RowU W3 g1 C := Row.grown0 hR1 hG3
         have h3 : w.heap.size ≤ g3 := by have := hbw.size; omega
         replace hbw := below_row0 hbw hG3 (Nat.le_refl _))
      | (refine wpList_store_url rfl rfl _ _ rfl g3 (by exact rfl) D (by exact rfl) uz hr3 rfl hD hD1 ?_
         intro w7 hr7 hG7
         replace hR1 : RowU w7 g1 C := Row.grown hR1 hG7 hne
         replace hbw := below_row hbw hG7 (Nat.le_refl _) h3)
      | (refine wpList_load_url (by rfl) _ rfl g3 (by exact rfl) D hr7 hD ?_))
    go_ret
    exact ⟨by rw [e.out]; rfl, hbw⟩
set_option maxRecDepth 20000 in
set_option maxHeartbeats 2000000 in
theorem urlFormat_any (hPar : HoPar 86) (hF : HoFmt 65) (u : Uv) (h : USm u) (w : World) (hw : Uw w) :
    Calls Tryz.prog 15 #[.agg u.cells] w fun e w' => e = .returned (.string (if validX u = true then bs (textX u) else ⟨#[]⟩)) ∧ Below w.heap.size w w' := by
  have c1 := fun W hW => text_sm hF h W hW
  have c2 := fun W hW => urlValid_any hPar hF u h W hW
  have hC := urv_size u
  generalize u.cells = C at *
  generalize bs (textX u) = T at *
  have HW := Lib.hid hw
  generalize validX u = V at *
  clear h hw
  cases V <;> (
    go_enter Tryz.func15, Tryz.ntmps15
    go_wp2_with (first
      | (refine wpList_box_arr _ rfl 1 rfl _ _ rfl _ C (by exact rfl) (by exact rfl) ?_; intro W1 g1 hg1 hl1 hR1 hG1; have hbw := below_row0 (Below.refl w.heap.size w) hG1 (Nat.le_refl _))
      | (refine wpList_load_url (by rfl) _ rfl g1 (by exact rfl) C hR1 hC ?_)
      | (go_at_call 17; refine (c2 _ (uw_below HW.out hbw)).mono ?_; rintro e w5 ⟨rfl, hb5⟩
         replace hR1 : RowU w5 g1 C := Row.below hR1 hb5 (Row.lt hR1)
         replace hbw := hbw.trans (hb5.mono hbw.size)
         clear hb5)
      | (go_at_call 41; refine (c1 _ (uw_below HW.out hbw).1.1).mono ?_; rintro e w5 ⟨rfl, hb5⟩
         replace hR1 : RowU w5 g1 C := Row.below hR1 hb5 (Row.lt hR1)
         replace hbw := hbw.trans (hb5.mono hbw.size)
         clear hb5))
    go_ret
    exact ⟨rfl, hbw⟩)
theorem urlPort_any (u : Uv) (w : World) :
    Calls Tryz.prog 23 #[.agg u.cells] w fun e w' => e = .returned (.int .i64 (if u.port = -1 then stdP u.scheme else u.port)) ∧ Below w.heap.size w w' := by
  have hC := uc_facts u
  have c1 := fun W => defP_any (bs u.scheme) W
  rw [ls_bs] at c1
  generalize u.cells = C at *
  generalize u.host.cells = H at *
  generalize bs u.scheme = S at *
  generalize stdP u.scheme = z at *
  generalize u.port = p at *
  by_cases hp : p = -1
  · have hq : (p != -1) = false := by rw [hp]; rfl
    rw [if_pos hp]
    clear hp
    go_enter Tryz.func23, Tryz.ntmps23
    go_wp2_with (first
      | (refine wpList_box_arr _ rfl 1 rfl _ _ rfl _ C (by exact rfl) (by exact rfl) ?_; intro W1 g1 hg1 hl1 hR1 hG1; have hbw := below_row0 (Below.refl w.heap.size w) hG1 (Nat.le_refl _)
         obtain ⟨e0, e1, e3, e13, e14⟩ := hC.cell hR1)
      | (go_at_call 43; refine (c1 _).mono ?_; rintro e w5 ⟨rfl, rfl⟩))
    go_ret
    exact ⟨rfl, hbw⟩
  · have hq : (p != -1) = true := by rw [bne, beq_eq_false_iff_ne.2 hp]; rfl
    rw [if_neg hp]
    clear hp
    go_enter Tryz.func23, Tryz.ntmps23
    go_wp2_with (refine wpList_box_arr _ rfl 1 rfl _ _ rfl _ C (by exact rfl) (by exact rfl) ?_; intro W1 g1 hg1 hl1 hR1 hG1; have hbw := below_row0 (Below.refl w.heap.size w) hG1 (Nat.le_refl _)
                 obtain ⟨e0, e1, e3, e13, e14⟩ := hC.cell hR1)
    go_ret
    exact ⟨rfl, hbw⟩
theorem urlInsecure_any (u : Uv) (w : World) :
    Calls Tryz.prog 21 #[.agg u.cells] w fun e w' => e = .returned (.bool (insL u.scheme)) ∧ Below w.heap.size w w' := by
  have hC := uc_facts u
  have c1 := fun W => cpt_any (bs u.scheme) W
  rw [ls_bs] at c1
  generalize u.cells = C at *
  generalize u.host.cells = H at *
  generalize bs u.scheme = S at *
  generalize secS u.scheme = Z at *
  generalize insL u.scheme = q at *
  go_enter Tryz.func21, Tryz.ntmps21
  go_wp2_with (first
    | (refine wpList_box_arr _ rfl 1 rfl _ _ rfl _ C (by exact rfl) (by exact rfl) ?_; intro W1 g1 hg1 hl1 hR1 hG1; have hbw := below_row0 (Below.refl w.heap.size w) hG1 (Nat.le_refl _)
       obtain ⟨e0, e1, e3, e13, e14⟩ := hC.cell hR1)
    | (go_at_call 44; refine (c1 _).mono ?_; rintro e w5 ⟨rfl, rfl⟩))
  go_ret
  exact ⟨rfl, hbw⟩
end

section
open Go.RowKit Go.Shelf
theorem Row.set9 {w : World} {g k : Nat} {t : TypeId} {c : Array Value} {v : Value} (h : Row w g t c) : Row (w.setCell ⟨g, k, none⟩ v) g t (c.setIfInBounds k v) := by
  rw [setCell_eq_setRow w g k c t (0, 0) v h]
  exact setRow_heap w g c _ t _ h
theorem up_cells0 {u : Uv} (h : insL u.scheme = false) : (upU u).cells = u.cells := by unfold upU; rw [h]; rfl
theorem up_cells1 {u : Uv} (h : insL u.scheme = true) (hp : u.port = 443) : (upU u).cells = (u.cells.setIfInBounds 0 (.string (bs (secL u.scheme)))).setIfInBounds 13 (.int .i64 (-1)) := by
  unfold upU
  rw [if_pos h, if_pos hp]
  rfl
theorem up_cells2 {u : Uv} (h : insL u.scheme = true) (hp : u.port ≠ 443) : (upU u).cells = u.cells.setIfInBounds 0 (.string (bs (secL u.scheme))) := by
  unfold upU
  rw [if_pos h, if_neg hp]
  rfl
theorem all_set9 {c : Array Value} {k : Nat} {v : Value} (h : c.all (·.oneCell') = true) (hv : v.oneCell' = true) : (c.setIfInBounds k v).all (·.oneCell') = true := by
  rw [Array.all_eq_true] at h ⊢
  intro i hi
  rw [Array.getElem_setIfInBounds]
  split
  · exact hv
  · exact h i (by simpa using hi)
set_option maxRecDepth 20000 in
set_option maxHeartbeats 2000000 in
theorem urlUpgrade_any (u : Uv) (h : USm u) (w : World) :
    Calls Tryz.prog 25 #[.agg u.cells] w fun e w' => e = .returned (.agg (upU u).cells) ∧ Below w.heap.size w w' := by
  have hC := uc_facts u
  have c1 := fun W => cpt_any (bs u.scheme) W
  rw [ls_bs] at c1
  have c2 := fun W => copy_cells hC (by rw [bs_size]; have := h.s1; omega) (by rw [bs_size]; have := h.s2; omega) (by rw [bs_size]; have := h.hn; omega) (by rw [bs_size]; have := h.s3; omega) W
  cases hi : insL u.scheme with
  | false =>
    rw [up_cells0 hi]
    rw [hi] at c1
    generalize u.cells = C at *
    generalize u.host.cells = H at *
    generalize bs u.scheme = S at *
    generalize secS u.scheme = Z at *
    clear hi h
    go_enter Tryz.func25, Tryz.ntmps25
    go_wp2_with (first
      | (refine wpList_box_arr _ rfl 1 rfl _ _ rfl _ C (by exact rfl) (by exact rfl) ?_; intro W1 g1 hg1 hl1 hR1 hG1; have hbw := below_row0 (Below.refl w.heap.size w) hG1 (Nat.le_refl _))
      | (refine wpList_alloc_arr _ rfl 2 rfl _ rfl uz zeroUrl ?_
         intro W2 g2 hg2 hl2 hR2 hG2
         have hne12 : g1 ≠ g2 := by omega
         have h2 : w.heap.size ≤ g2 := by have := hbw.size; omega
         replace hR1 : RowU W2 g1 C := Row.grown0 hR1 hG2
         replace hR2 : RowU W2 g2 uz := hR2
         replace hbw := below_row0 hbw hG2 (Nat.le_refl _))
      | (refine wpList_load_url (by rfl) _ rfl g1 (by exact rfl) C hR1 hC.sz ?_)
      | (go_at_call 46; refine (c2 _).mono ?_; rintro e w5 ⟨rfl, hb5⟩
         replace hR1 : RowU w5 g1 C := Row.below hR1 hb5 (Row.lt hR1)
         replace hR2 : RowU w5 g2 uz := Row.below hR2 hb5 (Row.lt hR2)
         replace hbw := hbw.trans (hb5.mono hbw.size)
         clear hb5)
      | (refine wpList_alloc_arr _ rfl 3 rfl _ rfl uz zeroUrl ?_
         intro W3 g3 hg3 hl3 hR3 hG3
         have hne13 : g1 ≠ g3 := by have := Row.lt hR1; omega
         have hne23 : g2 ≠ g3 := by have := Row.lt hR2; omega
         have h3 : w.heap.size ≤ g3 := by have := hbw.size; omega
         replace hR1 : RowU W3 g1 C := Row.grown0 hR1 hG3
         replace hR2 : RowU W3 g2 uz := Row.grown0 hR2 hG3
         replace hbw := below_row0 hbw hG3 (Nat.le_refl _))
      | (refine wpList_store_url rfl rfl _ _ rfl g3 (by exact rfl) C (by exact rfl) uz hR3 rfl hC.sz hC.one ?_
         intro w7 hr7 hG7
         replace hR1 : RowU w7 g1 C := Row.grown hR1 hG7 hne13
         replace hR2 : RowU w7 g2 uz := Row.grown hR2 hG7 hne23
         replace hbw := below_row hbw hG7 (Nat.le_refl _) h3
         obtain ⟨e0, e1, e3, e13, e14⟩ := hC.cell hR1)
      | (go_at_call 44; refine (c1 _).mono ?_; rintro e w5 ⟨rfl, rfl⟩)
      | (refine wpList_load_url (by rfl) _ rfl g3 (by exact rfl) C hr7 hC.sz ?_)
      | (refine wpList_store_url rfl rfl _ _ rfl g2 (by exact rfl) C (by exact rfl) uz hR2 rfl hC.sz hC.one ?_
         intro w8 hr8 hG8
         have hb8 := below_row hbw hG8 (Nat.le_refl _) h2))
    exact ret_url1 2 rfl g2 rfl C hr8 hC.sz rfl ⟨rfl, hb8⟩
  | true =>
    have hsec := (sec_facts _ hi).2.2.2.2.2.1
    have eZ : secS u.scheme = bs (secL u.scheme) := by unfold secS; rw [if_pos hi]
    have c3 := fun W => defP_any (bs (secL u.scheme)) W
    rw [ls_bs, hsec] at c3
    rw [hi, eZ] at c1
    obtain ⟨p, hp⟩ : ∃ p, p = u.port := ⟨_, rfl⟩
    have hU1 := fun h => up_cells1 (u := u) hi h
    have hU2 := fun h => up_cells2 (u := u) hi h
    rw [← hp] at hC hU1 hU2
    generalize (upU u).cells = D at *
    generalize u.cells = C at *
    generalize u.host.cells = H at *
    generalize bs u.scheme = S at *
    generalize bs (secL u.scheme) = Z at *
    clear hi h hsec eZ hp
    have HU1 := Lib.hid hU1
    have HU2 := Lib.hid hU2
    clear hU1 hU2
    go_enter Tryz.func25, Tryz.ntmps25
    go_wp2_with (first
      | (refine wpList_box_arr _ rfl 1 rfl _ _ rfl _ C (by exact rfl) (by exact rfl) ?_; intro W1 g1 hg1 hl1 hR1 hG1; have hbw := below_row0 (Below.refl w.heap.size w) hG1 (Nat.le_refl _))
      | (refine wpList_alloc_arr _ rfl 2 rfl _ rfl uz zeroUrl ?_
         intro W2 g2 hg2 hl2 hR2 hG2
         have hne12 : g1 ≠ g2 := by omega
         have h2 : w.heap.size ≤ g2 := by have := hbw.size; omega
         replace hR1 : RowU W2 g1 C := Row.grown0 hR1 hG2
         replace hR2 : RowU W2 g2 uz := hR2
         replace hbw := below_row0 hbw hG2 (Nat.le_refl _))
      | (refine wpList_load_url (by rfl) _ rfl g1 (by exact rfl) C hR1 hC.sz ?_)
      | (go_at_call 46; refine (c2 _).mono ?_; rintro e w5 ⟨rfl, hb5⟩
         replace hR1 : RowU w5 g1 C := Row.below hR1 hb5 (Row.lt hR1)
         replace hR2 : RowU w5 g2 uz := Row.below hR2 hb5 (Row.lt hR2)
         replace hbw := hbw.trans (hb5.mono hbw.size)
         clear hb5)
      | (refine wpList_alloc_arr _ rfl 3 rfl _ rfl uz zeroUrl ?_
         intro W3 g3 hg3 hl3 hR3 hG3
         have hne13 : g1 ≠ g3 := by have := Row.lt hR1; omega
         have hne23 : g2 ≠ g3 := by have := Row.lt hR2; omega
         have h3 : w.heap.size ≤ g3 := by have := hbw.size; omega
         replace hR1 : RowU W3 g1 C := Row.grown0 hR1 hG3
         replace hR2 : RowU W3 g2 uz := Row.grown0 hR2 hG3
         replace hbw := below_row0 hbw hG3 (Nat.le_refl _))
      | (refine wpList_store_url rfl rfl _ _ rfl g3 (by exact rfl) C (by exact rfl) uz hR3 rfl hC.sz hC.one ?_
         intro w7 hr7 hG7
         replace hR1 : RowU w7 g1 C := Row.grown hR1 hG7 hne13
         replace hR2 : RowU w7 g2 uz := Row.grown hR2 hG7 hne23
         replace hbw := below_row hbw hG7 (Nat.le_refl _) h3
         obtain ⟨e0, e1, e3, e13, e14⟩ := hC.cell hR1
         have k0 := (hC.cell hr7).1
         have fz := Row.frozen9 hr7 0)
      | (go_at_call 44; refine (c1 _).mono ?_; rintro e w5 ⟨rfl, rfl⟩))
    clear k0 fz e0 e1 e3 e13 e14
    replace hr7 : RowU (w7.setCell ⟨g3, 0, none⟩ (.string Z)) g3 (C.setIfInBounds 0 (.string Z)) := Row.set9 hr7
    replace hR1 : RowU (w7.setCell ⟨g3, 0, none⟩ (.string Z)) g1 C := Row.set_other9 hR1 hne13
    replace hR2 : RowU (w7.setCell ⟨g3, 0, none⟩ (.string Z)) g2 uz := Row.set_other9 hR2 hne23
    replace hbw := hbw.setCell (p := ⟨g3, 0, none⟩) h3 (.string Z)
    obtain ⟨w9, hw9⟩ : ∃ W, W = w7.setCell ⟨g3, 0, none⟩ (.string Z) := ⟨_, rfl⟩
    rw [← hw9] at hr7 hR1 hR2 hbw ⊢
    clear hw9
    have e13 := (hC.cell hR1).2.2.2.1
    have z1 : (C.setIfInBounds 0 (.string Z)).size = 15 := by rw [Array.size_setIfInBounds]; exact hC.sz
    have o1 : (C.setIfInBounds 0 (.string Z)).all (·.oneCell') = true := all_set9 hC.one rfl
    by_cases hp : p = 443
    · have hq : (p == 443) = true := by rw [hp]; rfl
      have HD := Lib.hid (HU1.out hp)
      generalize C.setIfInBounds 0 (.string Z) = C1 at *
      have z2 : (C1.setIfInBounds 13 (.int .i64 (-1))).size = 15 := by rw [Array.size_setIfInBounds]; exact z1
      have o2 : (C1.setIfInBounds 13 (.int .i64 (-1))).all (·.oneCell') = true := all_set9 o1 rfl
      clear hp
      go_quiet ((go_at_call 43; exact quiet_sameU (c3 _)))
      clear e13
      replace hr7 : RowU (w9.drewN nq) g3 C1 := Row.below hr7 (below_drewN w9 nq) (Row.lt hr7)
      replace hR2 : RowU (w9.drewN nq) g2 uz := Row.below hR2 (below_drewN w9 nq) (Row.lt hR2)
      replace hbw := hbw.trans ((below_drewN w9 nq).mono hbw.size)
      generalize w9.drewN nq = w10 at *
      go_wp2_with (first
        | (refine wpList_store_cell _ rfl rfl _ _ _ rfl g3 13 (by exact rfl) _ rfl rfl _ C1 hr7 (by rw [z1]; decide) (by exact sizeInt1) ?_
           intro w11 hr11 hG11
           replace hR2 : RowU w11 g2 uz := Row.grown hR2 hG11 hne23
           replace hbw := below_row hbw hG11 (Nat.le_refl _) h3)
        | (refine wpList_load_url (by rfl) _ rfl g3 (by exact rfl) _ hr11 z2 ?_)
        | (refine wpList_store_url rfl rfl _ _ rfl g2 (by exact rfl) (C1.setIfInBounds 13 (.int .i64 (-1))) (by exact rfl) uz hR2 rfl z2 o2 ?_
           intro w12 hr12 hG12
           have hb12 := below_row hbw hG12 (Nat.le_refl _) h2))
      exact ret_url1 2 rfl g2 rfl _ hr12 z2 rfl ⟨by rw [HD.out], hb12⟩
    · have hq : (p == 443) = false := by rw [beq_eq_false_iff_ne]; exact hp
      have HD := Lib.hid (HU2.out hp)
      generalize C.setIfInBounds 0 (.string Z) = C1 at *
      clear hp
      go_quiet ((go_at_call 43; exact quiet_sameU (c3 _)))
      clear e13
      replace hr7 : RowU (w9.drewN nq) g3 C1 := Row.below hr7 (below_drewN w9 nq) (Row.lt hr7)
      replace hR2 : RowU (w9.drewN nq) g2 uz := Row.below hR2 (below_drewN w9 nq) (Row.lt hR2)
      replace hbw := hbw.trans ((below_drewN w9 nq).mono hbw.size)
      generalize w9.drewN nq = w10 at *
      go_wp2_with (first
        | (refine wpList_load_url (by rfl) _ rfl g3 (by exact rfl) C1 hr7 z1 ?_)
        | (refine wpList_store_url rfl rfl _ _ rfl g2 (by exact rfl) C1 (by exact rfl) uz hR2 rfl z1 o1 ?_
           intro w12 hr12 hG12
           have hb12 := below_row hbw hG12 (Nat.le_refl _) h2))
      exact ret_url1 2 rfl g2 rfl C1 hr12 z1 rfl ⟨by rw [HD.out], hb12⟩
end

section
open Go.RowKit Go.Shelf
theorem uv0_sm : USm uv0 := ⟨hv0_wf, by decide, by decide, by decide, by decide, by decide, by decide⟩
theorem parseU_sm (l : List UInt8) (hl : l.length ≤ 99999990) : USm (parseU l).2 := by
  have hs : ∀ sch r : List UInt8, sch.length ≤ 99999990 → r.length ≤ 99999990 → USm (specP sch r).2 := by
    intro sch r h1 h2
    unfold specP
    split
    · have h3 := bef_len endA (r.drop 2)
      rw [List.length_drop] at h3
      have h4 := addr_len (befL endA (r.drop 2))
      unfold authP
      split
      · exact uv0_sm
      · rename_i q hq
        unfold hostP
        split
        · split
          · exact uv0_sm
          · rename_i p hp
            have h5 := portP_range hp
            have h6 := parseH_name q.1
            have h7 : (restP (fromL endA (r.drop 2))).length ≤ (fromL endA (r.drop 2)).length + 1 := by unfold restP; split <;> simp
            exact ⟨(parse_valid _).1, by show (parseH q.1).2.name.length ≤ _; omega, by show sch.length ≤ _; omega, by show (userL (befL endA (r.drop 2))).length ≤ _; omega, by show (restP (fromL endA (r.drop 2))).length ≤ _; omega, by show _ ≤ p; omega, by show p ≤ _; omega⟩
        · exact uv0_sm
    · exact uv0_sm
  have h1 := bef_len (isB 58) l
  have h2 : ((fromL (isB 58) l).drop 1).length ≤ 99999990 := by rw [List.length_drop]; omega
  have h3 : (lowL (befL (isB 58) l)).length ≤ 99999990 := by rw [low_len]; omega
  unfold parseU
  split
  · exact uv0_sm
  · split
    · split
      · exact hs _ _ h3 h2
      · exact ⟨hv0_wf, by show (0 : Nat) ≤ _; omega, by show (lowL (befL (isB 58) l)).length ≤ _; omega, by show (0 : Nat) ≤ _; omega, by show ((fromL (isB 58) l).drop 1).length ≤ _; omega, by show _ ≤ (-1 : Int); omega, by show (-1 : Int) ≤ _; omega⟩
    · exact uv0_sm
theorem good_port {u : Uv} (h : UGood u) : -1 ≤ u.port := by
  cases hs : specL u.scheme with
  | true =>
    have := (h.spec hs).2.2.2
    rcases this with h1 | h1
    · omega
    · have := h1.1; omega
  | false =>
    have := (h.plain hs).2.2
    omega
theorem good_valid {u : Uv} (h : UGood u) : validX u = true := by
  unfold validX
  rw [textX_eq (good_port h), good_parse h]
  simp [eqU_self]
theorem parse_err {l : List UInt8} (h : (parseU l).1 ≠ 0) : (parseU l).2 = uv0 := by
  have hs : ∀ sch r : List UInt8, (specP sch r).1 ≠ 0 → (specP sch r).2 = uv0 := by
    intro sch r
    unfold specP
    split
    · unfold authP
      split
      · intro _; rfl
      · unfold hostP
        split
        · split
          · intro _; rfl
          · intro h; exact absurd rfl h
        · intro _; rfl
    · intro _; rfl
  revert h
  unfold parseU
  split
  · intro _; rfl
  · split
    · split
      · exact hs _ _
      · intro h; exact absurd rfl h
    · intro _; rfl
theorem parseUL_sm (l : List UInt8) : USm (parseUL l).2 := by
  unfold parseUL
  split
  · exact uv0_sm
  · exact parseU_sm l (by omega)
theorem parseUL_err {l : List UInt8} (h : (parseUL l).1 ≠ 0) : (parseUL l).2 = uv0 := by
  revert h
  unfold parseUL
  split
  · intro _; rfl
  · exact parse_err
theorem parseUL_good {l : List UInt8} (h : (parseUL l).1 = 0) : UGood (parseUL l).2 := by
  revert h
  unfold parseUL
  split
  · intro h; cases h
  · intro h
    exact parse_good (u := (parseU l).2) (by rw [← h])
end

end Go.Proofs.YtdfacgncphmcoaaGreatDoor
