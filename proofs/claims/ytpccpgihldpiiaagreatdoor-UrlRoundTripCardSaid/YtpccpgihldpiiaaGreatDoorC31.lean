/-
parse, Parse, Valid, Format of package url.
Parse, Valid, Format, Port, Insecure of package url.
Upgrade of package url.
The examples of the chapter on URLs hold.
-/
import Derived.Test.YtpccpgihldpiiaaGreatDoorC30
namespace Go.Proofs.YtpccpgihldpiiaaGreatDoor
section
open Go.RowKit Go.Shelf

theorem urv_size (u : Uv) : u.cells.size = 15 := rfl
theorem urv_one (u : Uv) : u.cells.all (·.oneCell') = true := uc_one _ _ _ _ _ _ _ _
theorem low_len (l : List UInt8) : (lowL l).length = l.length := by unfold lowL; simp

set_option maxRecDepth 20000 in
set_option maxHeartbeats 4000000 in
theorem parse_any (hPar : HoPar 13) (s : ByteArray) (w : World) (zs : s.size ≤ 999999999) (hw : Uw w) :
    Calls Tryz.prog 65 #[.string s] w (UrlPost w (parseU (ls s))) := by
  have c1 := fun W => excl_any s W (by omega)
  by_cases h1 : (ls s).any exclB = true
  · have HP : Hid (parseU (ls s) = (4, uv0)) := Lib.hid (by unfold parseU; rw [if_pos h1])
    rw [h1] at c1
    clear h1 hw
    go_enter Tryz.func65, Tryz.ntmps65
    go_wp2_with (first
      | (refine wpList_alloc_arr _ rfl 2 rfl _ rfl uz zeroUrl ?_
         intro W1 g2 hg2 hl2 hr2 hG
         have hbw := below_row0 (Below.refl w.heap.size w) hG (Nat.le_refl _))
      | (go_at_call 101; refine (c1 _).mono ?_; rintro e w5 ⟨rfl, hb5⟩
         replace hr2 : RowU w5 g2 uz := Row.below hr2 hb5 (Row.lt hr2)
         replace hbw := hbw.trans (hb5.mono hbw.size)
         clear hb5)
      | (refine wpList_store_url rfl rfl _ _ rfl g2 (by exact rfl) uz (by exact rfl) uz hr2 rfl rfl (uc_one _ _ _ _ _ _ _ _) ?_
         intro w7 hr7 hG7
         have hb7 := below_row hbw hG7 (Nat.le_refl _) hg2))
    exact ret_url 2 3 rfl g2 rfl uz hr7 rfl _ rfl rfl ⟨by rw [HP.out]; rfl, hb7⟩
  · have h1' : (ls s).any exclB = false := by simpa using h1
    rw [h1'] at c1
    have hP0 : parseU (ls s) = if ((ls s).any (isB 58) && schL (befL (isB 58) (ls s))) = true then
        (if specL (lowL (befL (isB 58) (ls s))) = true then specP (lowL (befL (isB 58) (ls s))) ((fromL (isB 58) (ls s)).drop 1) else (0, ⟨lowL (befL (isB 58) (ls s)), [], hv0, -1, (fromL (isB 58) (ls s)).drop 1⟩)) else (15, uv0) := by
      unfold parseU
      rw [if_neg h1]
    have c2 := fun W => scut_any s 58 W (by omega)
    unfold CutPost at c2
    have hlb := bef_len (isB 58) (ls s)
    rw [ls_length] at hlb
    have hld : ((fromL (isB 58) (ls s)).drop 1).length ≤ 999999999 := by rw [List.length_drop]; omega
    generalize (fromL (isB 58) (ls s)).drop 1 = R at *
    generalize befL (isB 58) (ls s) = B at *
    generalize (ls s).any (isB 58) = q at *
    have hlB : B.length ≤ 999999999 := by omega
    have zB : (bs B).size ≤ 1000000000 := by rw [bs_size]; omega
    have zR : (bs R).size ≤ 999999999 := by rw [bs_size]; exact hld
    have c3 := fun W => isScheme_any (bs B) W zB
    rw [ls_bs] at c3
    have HP0 := Lib.hid hP0
    have HW := Lib.hid hw
    clear h1 h1' hP0 hlb hld hw
    by_cases hq : (q && schL B) = true
    · obtain ⟨rfl, hs⟩ : q = true ∧ schL B = true := by simpa using hq
      rw [hs] at c3
      have c5 := fun W => lower_any (bs B) W zB
      have eL : lowS (bs B) = bs (lowL B) := rfl
      rw [eL] at c5
      have hLl := low_len B
      have HP1 : Hid (parseU (ls s) = if specL (lowL B) = true then specP (lowL B) R else (0, ⟨lowL B, [], hv0, -1, R⟩)) := Lib.hid (by rw [HP0.out, if_pos hq])
      generalize lowL B = L at *
      have zL : (bs L).size ≤ 1000000000 := by rw [bs_size]; omega
      have c6 := fun W => special_any (bs L) W
      rw [ls_bs] at c6
      clear hq hs eL hLl HP0
      by_cases hsp : specL L = true
      · rw [hsp] at c6
        have HP : Hid (parseU (ls s) = specP L R) := Lib.hid (by rw [HP1.out, if_pos hsp])
        have c7 := fun W hW => parseS_any hPar (bs L) (bs R) W zL zR hW
        unfold UrlPost at c7
        rw [ls_bs, ls_bs] at c7
        have hC := urv_size (specP L R).2
        have hC1 := urv_one (specP L R).2
        obtain ⟨C, hCe⟩ : ∃ C, C = (specP L R).2.cells := ⟨_, rfl⟩
        obtain ⟨n, hn⟩ : ∃ n, n = (specP L R).1 := ⟨_, rfl⟩
        rw [← hCe] at c7 hC hC1
        rw [← hn] at c7
        have HC := Lib.hid hCe
        have HN := Lib.hid hn
        clear hsp hCe hn HP1
        go_enter Tryz.func65, Tryz.ntmps65
        go_wp2_with (first
          | (refine wpList_alloc_arr _ rfl 2 rfl _ rfl uz zeroUrl ?_
             intro W1 g2 hg2 hl2 hr2 hG
             have hbw := below_row0 (Below.refl w.heap.size w) hG (Nat.le_refl _))
          | (go_at_call 101; refine (c1 _).mono ?_; rintro e w5 ⟨rfl, hb5⟩
             replace hr2 : RowU w5 g2 uz := Row.below hr2 hb5 (Row.lt hr2)
             replace hbw := hbw.trans (hb5.mono hbw.size)
             clear hb5)
          | (go_at_call 64; refine (c2 _).mono ?_; rintro e w5 ⟨rfl, hb5⟩
             replace hr2 : RowU w5 g2 uz := Row.below hr2 hb5 (Row.lt hr2)
             replace hbw := hbw.trans (hb5.mono hbw.size)
             clear hb5)
          | (go_at_call 103; refine (c3 _).mono ?_; rintro e w5 ⟨rfl, rfl⟩)
          | (go_at_call 104; refine (c5 _).mono ?_; rintro e w5 ⟨rfl, hb5⟩
             replace hr2 : RowU w5 g2 uz := Row.below hr2 hb5 (Row.lt hr2)
             replace hbw := hbw.trans (hb5.mono hbw.size)
             clear hb5)
          | (go_at_call 35; refine (c6 _).mono ?_; rintro e w5 ⟨rfl, rfl⟩)
          | (go_at_call 105; refine (c7 _ (uw_below HW.out hbw)).mono ?_; rintro e w5 ⟨rfl, hb5⟩
             replace hr2 : RowU w5 g2 uz := Row.below hr2 hb5 (Row.lt hr2)
             replace hbw := hbw.trans (hb5.mono hbw.size)
             clear hb5)
          | (refine wpList_store_url rfl rfl _ _ rfl g2 (by exact rfl) C (by exact rfl) uz hr2 rfl hC hC1 ?_
             intro w7 hr7 hG7
             have hb7 := below_row hbw hG7 (Nat.le_refl _) hg2))
        exact ret_url 2 3 rfl g2 rfl C hr7 hC _ rfl rfl ⟨by rw [HP.out, ← HC.out, ← HN.out]; rfl, hb7⟩
      · have hsp' : specL L = false := by simpa using hsp
        rw [hsp'] at c6
        have HP : Hid (parseU (ls s) = (0, ⟨L, [], hv0, -1, R⟩)) := Lib.hid (by rw [HP1.out, if_neg hsp])
        have c7 := fun W => cl_any (bs R) W (by omega)
        have hC : (Uv.mk L [] hv0 (-1) R).cells = #[.string (bs L), .string ⟨#[]⟩, .int .i64 0, .string ⟨#[]⟩, .int .u32 0, .int .u16 0, .int .u16 0, .int .u16 0, .int .u16 0, .int .u16 0, .int .u16 0, .int .u16 0, .int .u16 0, .int .i64 (-1), .string (bs R)] := rfl
        have hC1 := urv_one (Uv.mk L [] hv0 (-1) R)
        rw [hC] at hC1
        have HC := Lib.hid hC
        clear hsp hsp' HP1 hC
        go_enter Tryz.func65, Tryz.ntmps65
        go_wp2_with (first
          | (refine wpList_alloc_arr _ rfl 2 rfl _ rfl uz zeroUrl ?_
             intro W1 g2 hg2 hl2 hr2 hG
             have hbw := below_row0 (Below.refl w.heap.size w) hG (Nat.le_refl _))
          | (go_at_call 101; refine (c1 _).mono ?_; rintro e w5 ⟨rfl, hb5⟩
             replace hr2 : RowU w5 g2 uz := Row.below hr2 hb5 (Row.lt hr2)
             replace hbw := hbw.trans (hb5.mono hbw.size)
             clear hb5)
          | (go_at_call 64; refine (c2 _).mono ?_; rintro e w5 ⟨rfl, hb5⟩
             replace hr2 : RowU w5 g2 uz := Row.below hr2 hb5 (Row.lt hr2)
             replace hbw := hbw.trans (hb5.mono hbw.size)
             clear hb5)
          | (go_at_call 103; refine (c3 _).mono ?_; rintro e w5 ⟨rfl, rfl⟩)
          | (go_at_call 104; refine (c5 _).mono ?_; rintro e w5 ⟨rfl, hb5⟩
             replace hr2 : RowU w5 g2 uz := Row.below hr2 hb5 (Row.lt hr2)
             replace hbw := hbw.trans (hb5.mono hbw.size)
             clear hb5)
          | (go_at_call 35; refine (c6 _).mono ?_; rintro e w5 ⟨rfl, rfl⟩)
          | (go_at_call 62; refine (c7 _).mono ?_; rintro e w5 ⟨rfl, hb5⟩
             replace hr2 : RowU w5 g2 uz := Row.below hr2 hb5 (Row.lt hr2)
             replace hbw := hbw.trans (hb5.mono hbw.size)
             clear hb5)
          | (refine wpList_store_url rfl rfl _ _ rfl g2 (by exact rfl) _ (by exact rfl) uz hr2 rfl rfl hC1 ?_
             intro w7 hr7 hG7
             have hb7 := below_row hbw hG7 (Nat.le_refl _) hg2))
        exact ret_url 2 3 rfl g2 rfl _ hr7 rfl _ rfl rfl ⟨by rw [HP.out]; show _ = Ending.returned (.tuple #[.agg (Uv.mk L [] hv0 (-1) R).cells, .int .i64 0]); rw [HC.out]; rfl, hb7⟩
    · have HP : Hid (parseU (ls s) = (15, uv0)) := Lib.hid (by rw [HP0.out, if_neg hq])
      cases q <;> (
        first
          | (have hq2 : schL B = false := by simpa using hq
             rw [hq2] at c3
             clear hq2)
          | skip
        clear hq
        go_enter Tryz.func65, Tryz.ntmps65
        go_wp2_with (first
          | (refine wpList_alloc_arr _ rfl 2 rfl _ rfl uz zeroUrl ?_
             intro W1 g2 hg2 hl2 hr2 hG
             have hbw := below_row0 (Below.refl w.heap.size w) hG (Nat.le_refl _))
          | (go_at_call 101; refine (c1 _).mono ?_; rintro e w5 ⟨rfl, hb5⟩
             replace hr2 : RowU w5 g2 uz := Row.below hr2 hb5 (Row.lt hr2)
             replace hbw := hbw.trans (hb5.mono hbw.size)
             clear hb5)
          | (go_at_call 64; refine (c2 _).mono ?_; rintro e w5 ⟨rfl, hb5⟩
             replace hr2 : RowU w5 g2 uz := Row.below hr2 hb5 (Row.lt hr2)
             replace hbw := hbw.trans (hb5.mono hbw.size)
             clear hb5)
          | (go_at_call 103; refine (c3 _).mono ?_; rintro e w5 ⟨rfl, rfl⟩)
          | (refine wpList_store_url rfl rfl _ _ rfl g2 (by exact rfl) uz (by exact rfl) uz hr2 rfl rfl (uc_one _ _ _ _ _ _ _ _) ?_
             intro w7 hr7 hG7
             have hb7 := below_row hbw hG7 (Nat.le_refl _) hg2))
        exact ret_url 2 3 rfl g2 rfl uz hr7 rfl _ rfl rfl ⟨by rw [HP.out]; rfl, hb7⟩)
end

section
open Go.RowKit Go.Shelf

set_option maxRecDepth 20000 in
set_option maxHeartbeats 2000000 in
theorem Parse_any (hPar : HoPar 13) (s : ByteArray) (w : World) (_ : s.size ≤ maxLen) (hw : Uw w) :
    Calls Tryz.prog 28 #[.string s] w (UrlPost w (parseUL (ls s))) := by
  by_cases h1 : 2048 < s.size
  · have HP : Hid (parseUL (ls s) = (3, uv0)) := Lib.hid (by unfold parseUL; rw [ls_length, if_pos h1])
    have hd : decide ((2048 : Int) < (s.size : Int)) = true := decide_eq_true (by omega)
    clear h1 hw
    go_enter Tryz.func28, Tryz.ntmps28
    go_wp2_with (first
      | (refine wpList_alloc_arr _ rfl 2 rfl _ rfl uz zeroUrl ?_
         intro W1 g2 hg2 hl2 hr2 hG
         have hbw := below_row0 (Below.refl w.heap.size w) hG (Nat.le_refl _))
      | (refine wpList_store_url rfl rfl _ _ rfl g2 (by exact rfl) uz (by exact rfl) uz hr2 rfl rfl (uc_one _ _ _ _ _ _ _ _) ?_
         intro w7 hr7 hG7
         have hb7 := below_row hbw hG7 (Nat.le_refl _) hg2))
    exact ret_url 2 3 rfl g2 rfl uz hr7 rfl _ rfl rfl ⟨by rw [HP.out]; rfl, hb7⟩
  · have HP : Hid (parseUL (ls s) = parseU (ls s)) := Lib.hid (by unfold parseUL; rw [ls_length, if_neg h1])
    have hd : decide ((2048 : Int) < (s.size : Int)) = false := decide_eq_false (by omega)
    have c7 := fun W hW => parse_any hPar s W (by omega) hW
    unfold UrlPost at c7
    have hC := urv_size (parseU (ls s)).2
    have hC1 := urv_one (parseU (ls s)).2
    obtain ⟨C, hCe⟩ : ∃ C, C = (parseU (ls s)).2.cells := ⟨_, rfl⟩
    obtain ⟨n, hn⟩ : ∃ n, n = (parseU (ls s)).1 := ⟨_, rfl⟩
    rw [← hCe] at c7 hC hC1
    rw [← hn] at c7
    have HC := Lib.hid hCe
    have HN := Lib.hid hn
    have HW := Lib.hid hw
    clear h1 hCe hn hw
    go_enter Tryz.func28, Tryz.ntmps28
    go_wp2_with (first
      | (refine wpList_alloc_arr _ rfl 2 rfl _ rfl uz zeroUrl ?_
         intro W1 g2 hg2 hl2 hr2 hG
         have hbw := below_row0 (Below.refl w.heap.size w) hG (Nat.le_refl _))
      | (go_at_call 65; refine (c7 _ (uw_below HW.out hbw)).mono ?_; rintro e w5 ⟨rfl, hb5⟩
         replace hr2 : RowU w5 g2 uz := Row.below hr2 hb5 (Row.lt hr2)
         replace hbw := hbw.trans (hb5.mono hbw.size)
         clear hb5)
      | (refine wpList_store_url rfl rfl _ _ rfl g2 (by exact rfl) C (by exact rfl) uz hr2 rfl hC hC1 ?_
         intro w7 hr7 hG7
         have hb7 := below_row hbw hG7 (Nat.le_refl _) hg2))
    exact ret_url 2 3 rfl g2 rfl C hr7 hC _ rfl rfl ⟨by rw [HP.out, ← HC.out, ← HN.out]; rfl, hb7⟩

theorem parseU_hwf (l : List UInt8) : (parseU l).2.host.Wf := by
  have h0 : hv0.Wf := hv0_wf
  have hs : ∀ sch r, (specP sch r).2.host.Wf := by
    intro sch r
    unfold specP
    split
    · unfold authP
      split
      · exact h0
      · unfold hostP
        split
        · split
          · exact h0
          · exact (parse_valid _).1
        · exact h0
    · exact h0
  unfold parseU
  split
  · exact h0
  · split
    · split
      · exact hs _ _
      · exact h0
    · exact h0

/-- Valid, of whatever port. -/
def validX (u : Uv) : Bool := decide ((parseU (textX u)).1 = 0) && eqU (parseU (textX u)).2 u
/-- What is asked of a URL that is handed in. -/
structure USm (u : Uv) : Prop where
  wf : u.host.Wf
  hn : u.host.name.length ≤ 100000000
  s1 : u.scheme.length ≤ 100000000
  s2 : u.user.length ≤ 100000000
  s3 : u.rest.length ≤ 100000000
  p0 : -9223372036854775808 ≤ u.port
  p1 : u.port ≤ 9223372036854775807
theorem textX_len {u : Uv} (h : USm u) : (textX u).length ≤ 999999999 := by
  have h1 := h.hn; have h2 := h.s1; have h3 := h.s2; have h4 := h.s3
  have h5 := fmtH_len h.wf
  have h6 := Lib.itoa_length_le _ h.p0 h.p1
  have h7 : (portX u.port).length ≤ 22 := by unfold portX; split <;> simp; omega
  have h8 : (userT u.user).length ≤ u.user.length + 1 := by unfold userT; split <;> simp
  unfold textX
  split
  · simp only [List.length_append, List.length_cons]
    omega
  · simp only [List.length_append, List.length_cons]
    omega
theorem text_sm (hF : HoFmt 108) {u : Uv} (h : USm u) (w : World) (hP : Pow6 w) :
    Calls Tryz.prog 67 #[.agg u.cells] w fun e w' => e = .returned (.string (bs (textX u))) ∧ Below w.heap.size w w' := by
  have h1 := h.hn; have h2 := h.s1; have h3 := h.s2; have h4 := h.s3
  exact text_any hF u h.wf (by omega) (by omega) (by omega) (by omega) h.p0 h.p1 w hP

set_option maxRecDepth 20000 in
set_option maxHeartbeats 2000000 in
theorem urlValid_any (hPar : HoPar 13) (hF : HoFmt 108) (u : Uv) (h : USm u) (w : World) (hw : Uw w) :
    Calls Tryz.prog 33 #[.agg u.cells] w fun e w' => e = .returned (.bool (validX u)) ∧ Below w.heap.size w w' := by
  have c1 := fun W hW => text_sm hF h W hW
  have c2 := fun W hW => parse_any hPar (bs (textX u)) W (by rw [bs_size]; exact textX_len h) hW
  unfold UrlPost at c2
  rw [ls_bs] at c2
  have hE := fun W => eq_url (parseU (textX u)).2 u (parseU_hwf _) h.wf W
  have hv : validX u = (decide ((parseU (textX u)).1 = 0) && eqU (parseU (textX u)).2 u) := rfl
  have hC := urv_size u
  have hC1 := urv_one u
  have hD := urv_size (parseU (textX u)).2
  have hD1 := urv_one (parseU (textX u)).2
  generalize eqU (parseU (textX u)).2 u = b at *
  generalize (parseU (textX u)).1 = n at *
  generalize (parseU (textX u)).2.cells = D at *
  generalize u.cells = C at *
  generalize bs (textX u) = T at *
  have HV := Lib.hid hv
  have HW := Lib.hid hw
  generalize validX u = V at *
  clear h hv hw
  by_cases hn : n = 0
  · subst hn
    go_enter Tryz.func33, Tryz.ntmps33
    go_wp2_with (first
      | (refine wpList_box_arr _ rfl 1 rfl _ _ rfl _ C (by exact rfl) (by exact rfl) ?_; intro W1 g1 hg1 hl1 hR1 hG1; have hbw := below_row0 (Below.refl w.heap.size w) hG1 (Nat.le_refl _))
      | (refine wpList_load_url (by rfl) _ rfl g1 (by exact rfl) C hR1 hC ?_)
      | (go_at_call 67; refine (c1 _ (uw_below HW.out hbw).1.1).mono ?_; rintro e w5 ⟨rfl, hb5⟩
         replace hR1 : RowU w5 g1 C := Row.below hR1 hb5 (Row.lt hR1)
         replace hbw := hbw.trans (hb5.mono hbw.size)
         clear hb5)
      | (go_at_call 65; refine (c2 _ (uw_below HW.out hbw)).mono ?_; rintro e w6 ⟨rfl, hb6⟩
         replace hR1 : RowU w6 g1 C := Row.below hR1 hb6 (Row.lt hR1)
         replace hbw := hbw.trans (hb6.mono hbw.size)
         clear hb6)
      | (refine wpList_alloc_arr _ rfl 3 rfl _ rfl uz zeroUrl ?_
         intro W3 g3 hg3 hl3 hr3 hG3
         have hne : g1 ≠ g3 := by have := Row.lt hR1; omega
         replace hR1 : RowU W3 g1 C := Row.grown0 hR1 hG3
         have h3 : w.heap.size ≤ g3 := by have := hbw.size; omega
         replace hbw := below_row0 hbw hG3 (Nat.le_refl _))
      | (refine wpList_store_url rfl rfl _ _ rfl g3 (by exact rfl) D (by exact rfl) uz hr3 rfl hD hD1 ?_
         intro w7 hr7 hG7
         replace hR1 : RowU w7 g1 C := Row.grown hR1 hG7 hne
         replace hbw := below_row hbw hG7 (Nat.le_refl _) h3)
      | (refine wpList_load_url (by rfl) _ rfl g3 (by exact rfl) D hr7 hD ?_))
    go_ret
    have e : V = b := HV.out.trans (by simp)
    exact ⟨by rw [e]; rfl, hbw⟩
  · have hn0 : ((n : Int) == 0) = false := by rw [beq_eq_false_iff_ne]; omega
    have e : Hid (V = false) := Lib.hid (HV.out.trans (by simp [hn]))
    clear hn HV
    go_enter Tryz.func33, Tryz.ntmps33
    go_wp2_with (first
      | (refine wpList_box_arr _ rfl 1 rfl _ _ rfl _ C (by exact rfl) (by exact rfl) ?_; intro W1 g1 hg1 hl1 hR1 hG1; have hbw := below_row0 (Below.refl w.heap.size w) hG1 (Nat.le_refl _))
      | (refine wpList_load_url (by rfl) _ rfl g1 (by exact rfl) C hR1 hC ?_)
      | (go_at_call 67; refine (c1 _ (uw_below HW.out hbw).1.1).mono ?_; rintro e w5 ⟨rfl, hb5⟩
         replace hR1 : RowU w5 g1 C := Row.below hR1 hb5 (Row.lt hR1)
         replace hbw := hbw.trans (hb5.mono hbw.size)
         clear hb5)
      | (go_at_call 65; refine (c2 _ (uw_below HW.out hbw)).mono ?_; rintro e w6 ⟨rfl, hb6⟩
         replace hR1 : RowU w6 g1 C := Row.below hR1 hb6 (Row.lt hR1)
         replace hbw := hbw.trans (hb6.mono hbw.size)
         clear hb6)
      | (refine wpList_alloc_arr _ rfl 3 rfl _ rfl uz zeroUrl ?_
         intro W3 g3 hg3 hl3 hr3 hG3
         have hne : g1 ≠ g3 := by have := Row.lt hR1; omega
         replace hR1 : RowU W3 g1 C := Row.grown0 hR1 hG3
         have h3 : w.heap.size ≤ g3 := by have := hbw.size; omega
         replace hbw := below_row0 hbw hG3 (Nat.le_refl _))
      | (refine wpList_store_url rfl rfl _ _ rfl g3 (by exact rfl) D (by exact rfl) uz hr3 rfl hD hD1 ?_
         intro w7 hr7 hG7
         replace hR1 : RowU w7 g1 C := Row.grown hR1 hG7 hne
         replace hbw := below_row hbw hG7 (Nat.le_refl _) h3)
      | (refine wpList_load_url (by rfl) _ rfl g3 (by exact rfl) D hr7 hD ?_))
    go_ret
    exact ⟨by rw [e.out]; rfl, hbw⟩

set_option maxRecDepth 20000 in
set_option maxHeartbeats 2000000 in
theorem urlFormat_any (hPar : HoPar 13) (hF : HoFmt 108) (u : Uv) (h : USm u) (w : World) (hw : Uw w) :
    Calls Tryz.prog 31 #[.agg u.cells] w fun e w' => e = .returned (.string (if validX u = true then bs (textX u) else ⟨#[]⟩)) ∧ Below w.heap.size w w' := by
  have c1 := fun W hW => text_sm hF h W hW
  have c2 := fun W hW => urlValid_any hPar hF u h W hW
  have hC := urv_size u
  generalize u.cells = C at *
  generalize bs (textX u) = T at *
  have HW := Lib.hid hw
  generalize validX u = V at *
  clear h hw
  cases V <;> (
    go_enter Tryz.func31, Tryz.ntmps31
    go_wp2_with (first
      | (refine wpList_box_arr _ rfl 1 rfl _ _ rfl _ C (by exact rfl) (by exact rfl) ?_; intro W1 g1 hg1 hl1 hR1 hG1; have hbw := below_row0 (Below.refl w.heap.size w) hG1 (Nat.le_refl _))
      | (refine wpList_load_url (by rfl) _ rfl g1 (by exact rfl) C hR1 hC ?_)
      | (go_at_call 33; refine (c2 _ (uw_below HW.out hbw)).mono ?_; rintro e w5 ⟨rfl, hb5⟩
         replace hR1 : RowU w5 g1 C := Row.below hR1 hb5 (Row.lt hR1)
         replace hbw := hbw.trans (hb5.mono hbw.size)
         clear hb5)
      | (go_at_call 67; refine (c1 _ (uw_below HW.out hbw).1.1).mono ?_; rintro e w5 ⟨rfl, hb5⟩
         replace hR1 : RowU w5 g1 C := Row.below hR1 hb5 (Row.lt hR1)
         replace hbw := hbw.trans (hb5.mono hbw.size)
         clear hb5))
    go_ret
    exact ⟨rfl, hbw⟩)

theorem urlPort_any (u : Uv) (w : World) :
    Calls Tryz.prog 39 #[.agg u.cells] w fun e w' => e = .returned (.int .i64 (if u.port = -1 then stdP u.scheme else u.port)) ∧ Below w.heap.size w w' := by
  have hC := uc_facts u
  have c1 := fun W => defP_any (bs u.scheme) W
  rw [ls_bs] at c1
  generalize u.cells = C at *
  generalize u.host.cells = H at *
  generalize bs u.scheme = S at *
  generalize stdP u.scheme = z at *
  generalize u.port = p at *
  by_cases hp : p = -1
  · have hq : (p != -1) = false := by rw [hp]; rfl
    rw [if_pos hp]
    clear hp
    go_enter Tryz.func39, Tryz.ntmps39
    go_wp2_with (first
      | (refine wpList_box_arr _ rfl 1 rfl _ _ rfl _ C (by exact rfl) (by exact rfl) ?_; intro W1 g1 hg1 hl1 hR1 hG1; have hbw := below_row0 (Below.refl w.heap.size w) hG1 (Nat.le_refl _)
         obtain ⟨e0, e1, e3, e13, e14⟩ := hC.cell hR1)
      | (go_at_call 69; refine (c1 _).mono ?_; rintro e w5 ⟨rfl, rfl⟩))
    go_ret
    exact ⟨rfl, hbw⟩
  · have hq : (p != -1) = true := by rw [bne, beq_eq_false_iff_ne.2 hp]; rfl
    rw [if_neg hp]
    clear hp
    go_enter Tryz.func39, Tryz.ntmps39
    go_wp2_with (refine wpList_box_arr _ rfl 1 rfl _ _ rfl _ C (by exact rfl) (by exact rfl) ?_; intro W1 g1 hg1 hl1 hR1 hG1; have hbw := below_row0 (Below.refl w.heap.size w) hG1 (Nat.le_refl _)
                 obtain ⟨e0, e1, e3, e13, e14⟩ := hC.cell hR1)
    go_ret
    exact ⟨rfl, hbw⟩

theorem urlInsecure_any (u : Uv) (w : World) :
    Calls Tryz.prog 37 #[.agg u.cells] w fun e w' => e = .returned (.bool (insL u.scheme)) ∧ Below w.heap.size w w' := by
  have hC := uc_facts u
  have c1 := fun W => cpt_any (bs u.scheme) W
  rw [ls_bs] at c1
  generalize u.cells = C at *
  generalize u.host.cells = H at *
  generalize bs u.scheme = S at *
  generalize secS u.scheme = Z at *
  generalize insL u.scheme = q at *
  go_enter Tryz.func37, Tryz.ntmps37
  go_wp2_with (first
    | (refine wpList_box_arr _ rfl 1 rfl _ _ rfl _ C (by exact rfl) (by exact rfl) ?_; intro W1 g1 hg1 hl1 hR1 hG1; have hbw := below_row0 (Below.refl w.heap.size w) hG1 (Nat.le_refl _)
       obtain ⟨e0, e1, e3, e13, e14⟩ := hC.cell hR1)
    | (go_at_call 70; refine (c1 _).mono ?_; rintro e w5 ⟨rfl, rfl⟩))
  go_ret
  exact ⟨rfl, hbw⟩
end

section
open Go.RowKit Go.Shelf

theorem Row.set9 {w : World} {g k : Nat} {t : TypeId} {c : Array Value} {v : Value} (h : Row w g t c) : Row (w.setCell ⟨g, k, none⟩ v) g t (c.setIfInBounds k v) := by
  rw [setCell_eq_setRow w g k c t (0, 0) v h]
  exact setRow_heap w g c _ t _ h
theorem up_cells0 {u : Uv} (h : insL u.scheme = false) : (upU u).cells = u.cells := by unfold upU; rw [h]; rfl
theorem up_cells1 {u : Uv} (h : insL u.scheme = true) (hp : u.port = 443) : (upU u).cells = (u.cells.setIfInBounds 0 (.string (bs (secL u.scheme)))).setIfInBounds 13 (.int .i64 (-1)) := by
  unfold upU
  rw [if_pos h, if_pos hp]
  rfl
theorem up_cells2 {u : Uv} (h : insL u.scheme = true) (hp : u.port ≠ 443) : (upU u).cells = u.cells.setIfInBounds 0 (.string (bs (secL u.scheme))) := by
  unfold upU
  rw [if_pos h, if_neg hp]
  rfl

theorem all_set9 {c : Array Value} {k : Nat} {v : Value} (h : c.all (·.oneCell') = true) (hv : v.oneCell' = true) : (c.setIfInBounds k v).all (·.oneCell') = true := by
  rw [Array.all_eq_true] at h ⊢
  intro i hi
  rw [Array.getElem_setIfInBounds]
  split
  · exact hv
  · exact h i (by simpa using hi)

set_option maxRecDepth 20000 in
set_option maxHeartbeats 2000000 in
theorem urlUpgrade_any (u : Uv) (h : USm u) (w : World) :
    Calls Tryz.prog 41 #[.agg u.cells] w fun e w' => e = .returned (.agg (upU u).cells) ∧ Below w.heap.size w w' := by
  have hC := uc_facts u
  have c1 := fun W => cpt_any (bs u.scheme) W
  rw [ls_bs] at c1
  have c2 := fun W => copy_cells hC (by rw [bs_size]; have := h.s1; omega) (by rw [bs_size]; have := h.s2; omega) (by rw [bs_size]; have := h.hn; omega) (by rw [bs_size]; have := h.s3; omega) W
  cases hi : insL u.scheme with
  | false =>
    rw [up_cells0 hi]
    rw [hi] at c1
    generalize u.cells = C at *
    generalize u.host.cells = H at *
    generalize bs u.scheme = S at *
    generalize secS u.scheme = Z at *
    clear hi h
    go_enter Tryz.func41, Tryz.ntmps41
    go_wp2_with (first
      | (refine wpList_box_arr _ rfl 1 rfl _ _ rfl _ C (by exact rfl) (by exact rfl) ?_; intro W1 g1 hg1 hl1 hR1 hG1; have hbw := below_row0 (Below.refl w.heap.size w) hG1 (Nat.le_refl _))
      | (refine wpList_alloc_arr _ rfl 2 rfl _ rfl uz zeroUrl ?_
         intro W2 g2 hg2 hl2 hR2 hG2
         have hne12 : g1 ≠ g2 := by omega
         have h2 : w.heap.size ≤ g2 := by have := hbw.size; omega
         replace hR1 : RowU W2 g1 C := Row.grown0 hR1 hG2
         replace hR2 : RowU W2 g2 uz := hR2
         replace hbw := below_row0 hbw hG2 (Nat.le_refl _))
      | (refine wpList_load_url (by rfl) _ rfl g1 (by exact rfl) C hR1 hC.sz ?_)
      | (go_at_call 72; refine (c2 _).mono ?_; rintro e w5 ⟨rfl, hb5⟩
         replace hR1 : RowU w5 g1 C := Row.below hR1 hb5 (Row.lt hR1)
         replace hR2 : RowU w5 g2 uz := Row.below hR2 hb5 (Row.lt hR2)
         replace hbw := hbw.trans (hb5.mono hbw.size)
         clear hb5)
      | (refine wpList_alloc_arr _ rfl 3 rfl _ rfl uz zeroUrl ?_
         intro W3 g3 hg3 hl3 hR3 hG3
         have hne13 : g1 ≠ g3 := by have := Row.lt hR1; omega
         have hne23 : g2 ≠ g3 := by have := Row.lt hR2; omega
         have h3 : w.heap.size ≤ g3 := by have := hbw.size; omega
         replace hR1 : RowU W3 g1 C := Row.grown0 hR1 hG3
         replace hR2 : RowU W3 g2 uz := Row.grown0 hR2 hG3
         replace hbw := below_row0 hbw hG3 (Nat.le_refl _))
      | (refine wpList_store_url rfl rfl _ _ rfl g3 (by exact rfl) C (by exact rfl) uz hR3 rfl hC.sz hC.one ?_
         intro w7 hr7 hG7
         replace hR1 : RowU w7 g1 C := Row.grown hR1 hG7 hne13
         replace hR2 : RowU w7 g2 uz := Row.grown hR2 hG7 hne23
         replace hbw := below_row hbw hG7 (Nat.le_refl _) h3
         obtain ⟨e0, e1, e3, e13, e14⟩ := hC.cell hR1)
      | (go_at_call 70; refine (c1 _).mono ?_; rintro e w5 ⟨rfl, rfl⟩)
      | (refine wpList_load_url (by rfl) _ rfl g3 (by exact rfl) C hr7 hC.sz ?_)
      | (refine wpList_store_url rfl rfl _ _ rfl g2 (by exact rfl) C (by exact rfl) uz hR2 rfl hC.sz hC.one ?_
         intro w8 hr8 hG8
         have hb8 := below_row hbw hG8 (Nat.le_refl _) h2))
    exact ret_url1 2 rfl g2 rfl C hr8 hC.sz rfl ⟨rfl, hb8⟩
  | true =>
    have hsec := (sec_facts _ hi).2.2.2.2.2.1
    have eZ : secS u.scheme = bs (secL u.scheme) := by unfold secS; rw [if_pos hi]
    have c3 := fun W => defP_any (bs (secL u.scheme)) W
    rw [ls_bs, hsec] at c3
    rw [hi, eZ] at c1
    obtain ⟨p, hp⟩ : ∃ p, p = u.port := ⟨_, rfl⟩
    have hU1 := fun h => up_cells1 (u := u) hi h
    have hU2 := fun h => up_cells2 (u := u) hi h
    rw [← hp] at hC hU1 hU2
    generalize (upU u).cells = D at *
    generalize u.cells = C at *
    generalize u.host.cells = H at *
    generalize bs u.scheme = S at *
    generalize bs (secL u.scheme) = Z at *
    clear hi h hsec eZ hp
    have HU1 := Lib.hid hU1
    have HU2 := Lib.hid hU2
    clear hU1 hU2
    go_enter Tryz.func41, Tryz.ntmps41
    go_wp2_with (first
      | (refine wpList_box_arr _ rfl 1 rfl _ _ rfl _ C (by exact rfl) (by exact rfl) ?_; intro W1 g1 hg1 hl1 hR1 hG1; have hbw := below_row0 (Below.refl w.heap.size w) hG1 (Nat.le_refl _))
      | (refine wpList_alloc_arr _ rfl 2 rfl _ rfl uz zeroUrl ?_
         intro W2 g2 hg2 hl2 hR2 hG2
         have hne12 : g1 ≠ g2 := by omega
         have h2 : w.heap.size ≤ g2 := by have := hbw.size; omega
         replace hR1 : RowU W2 g1 C := Row.grown0 hR1 hG2
         replace hR2 : RowU W2 g2 uz := hR2
         replace hbw := below_row0 hbw hG2 (Nat.le_refl _))
      | (refine wpList_load_url (by rfl) _ rfl g1 (by exact rfl) C hR1 hC.sz ?_)
      | (go_at_call 72; refine (c2 _).mono ?_; rintro e w5 ⟨rfl, hb5⟩
         replace hR1 : RowU w5 g1 C := Row.below hR1 hb5 (Row.lt hR1)
         replace hR2 : RowU w5 g2 uz := Row.below hR2 hb5 (Row.lt hR2)
         replace hbw := hbw.trans (hb5.mono hbw.size)
         clear hb5)
      | (refine wpList_alloc_arr _ rfl 3 rfl _ rfl uz zeroUrl ?_
         intro W3 g3 hg3 hl3 hR3 hG3
         have hne13 : g1 ≠ g3 := by have := Row.lt hR1; omega
         have hne23 : g2 ≠ g3 := by have := Row.lt hR2; omega
         have h3 : w.heap.size ≤ g3 := by have := hbw.size; omega
         replace hR1 : RowU W3 g1 C := Row.grown0 hR1 hG3
         replace hR2 : RowU W3 g2 uz := Row.grown0 hR2 hG3
         replace hbw := below_row0 hbw hG3 (Nat.le_refl _))
      | (refine wpList_store_url rfl rfl _ _ rfl g3 (by exact rfl) C (by exact rfl) uz hR3 rfl hC.sz hC.one ?_
         intro w7 hr7 hG7
         replace hR1 : RowU w7 g1 C := Row.grown hR1 hG7 hne13
         replace hR2 : RowU w7 g2 uz := Row.grown hR2 hG7 hne23
         replace hbw := below_row hbw hG7 (Nat.le_refl _) h3
         obtain ⟨e0, e1, e3, e13, e14⟩ := hC.cell hR1
         have k0 := (hC.cell hr7).1
         have fz := Row.frozen9 hr7 0)
      | (go_at_call 70; refine (c1 _).mono ?_; rintro e w5 ⟨rfl, rfl⟩))
    clear k0 fz e0 e1 e3 e13 e14
    replace hr7 : RowU (w7.setCell ⟨g3, 0, none⟩ (.string Z)) g3 (C.setIfInBounds 0 (.string Z)) := Row.set9 hr7
    replace hR1 : RowU (w7.setCell ⟨g3, 0, none⟩ (.string Z)) g1 C := Row.set_other9 hR1 hne13
    replace hR2 : RowU (w7.setCell ⟨g3, 0, none⟩ (.string Z)) g2 uz := Row.set_other9 hR2 hne23
    replace hbw := hbw.setCell (p := ⟨g3, 0, none⟩) h3 (.string Z)
    obtain ⟨w9, hw9⟩ : ∃ W, W = w7.setCell ⟨g3, 0, none⟩ (.string Z) := ⟨_, rfl⟩
    rw [← hw9] at hr7 hR1 hR2 hbw ⊢
    clear hw9
    have e13 := (hC.cell hR1).2.2.2.1
    have z1 : (C.setIfInBounds 0 (.string Z)).size = 15 := by rw [Array.size_setIfInBounds]; exact hC.sz
    have o1 : (C.setIfInBounds 0 (.string Z)).all (·.oneCell') = true := all_set9 hC.one rfl
    by_cases hp : p = 443
    · have hq : (p == 443) = true := by rw [hp]; rfl
      have HD := Lib.hid (HU1.out hp)
      generalize C.setIfInBounds 0 (.string Z) = C1 at *
      have z2 : (C1.setIfInBounds 13 (.int .i64 (-1))).size = 15 := by rw [Array.size_setIfInBounds]; exact z1
      have o2 : (C1.setIfInBounds 13 (.int .i64 (-1))).all (·.oneCell') = true := all_set9 o1 rfl
      clear hp
      go_quiet ((go_at_call 69; exact quiet_sameU (c3 _)))
      clear e13
      replace hr7 : RowU (w9.drewN nq) g3 C1 := Row.below hr7 (below_drewN w9 nq) (Row.lt hr7)
      replace hR2 : RowU (w9.drewN nq) g2 uz := Row.below hR2 (below_drewN w9 nq) (Row.lt hR2)
      replace hbw := hbw.trans ((below_drewN w9 nq).mono hbw.size)
      generalize w9.drewN nq = w10 at *
      go_wp2_with (first
        | (refine wpList_store_cell _ rfl rfl _ _ _ rfl g3 13 (by exact rfl) _ rfl rfl _ C1 hr7 (by rw [z1]; decide) (by exact sizeInt1) ?_
           intro w11 hr11 hG11
           replace hR2 : RowU w11 g2 uz := Row.grown hR2 hG11 hne23
           replace hbw := below_row hbw hG11 (Nat.le_refl _) h3)
        | (refine wpList_load_url (by rfl) _ rfl g3 (by exact rfl) _ hr11 z2 ?_)
        | (refine wpList_store_url rfl rfl _ _ rfl g2 (by exact rfl) (C1.setIfInBounds 13 (.int .i64 (-1))) (by exact rfl) uz hR2 rfl z2 o2 ?_
           intro w12 hr12 hG12
           have hb12 := below_row hbw hG12 (Nat.le_refl _) h2))
      exact ret_url1 2 rfl g2 rfl _ hr12 z2 rfl ⟨by rw [HD.out], hb12⟩
    · have hq : (p == 443) = false := by rw [beq_eq_false_iff_ne]; exact hp
      have HD := Lib.hid (HU2.out hp)
      generalize C.setIfInBounds 0 (.string Z) = C1 at *
      clear hp
      go_quiet ((go_at_call 69; exact quiet_sameU (c3 _)))
      clear e13
      replace hr7 : RowU (w9.drewN nq) g3 C1 := Row.below hr7 (below_drewN w9 nq) (Row.lt hr7)
      replace hR2 : RowU (w9.drewN nq) g2 uz := Row.below hR2 (below_drewN w9 nq) (Row.lt hR2)
      replace hbw := hbw.trans ((below_drewN w9 nq).mono hbw.size)
      generalize w9.drewN nq = w10 at *
      go_wp2_with (first
        | (refine wpList_load_url (by rfl) _ rfl g3 (by exact rfl) C1 hr7 z1 ?_)
        | (refine wpList_store_url rfl rfl _ _ rfl g2 (by exact rfl) C1 (by exact rfl) uz hR2 rfl z1 o1 ?_
           intro w12 hr12 hG12
           have hb12 := below_row hbw hG12 (Nat.le_refl _) h2))
      exact ret_url1 2 rfl g2 rfl C1 hr12 z1 rfl ⟨by rw [HD.out], hb12⟩
end

section
open Go.RowKit Go.Shelf

def uA : Uv := ⟨[104, 116, 116, 112], [117, 58, 112], hvD [101, 120, 97, 109, 112, 108, 101, 46, 99, 111, 109], -1, [47, 63, 113]⟩
def uB : Uv := ⟨[104, 116, 116, 112], [], hvD [97], 443, [47]⟩
theorem ex15_a : parseUL [72, 84, 84, 80, 58, 47, 47, 117, 58, 112, 64, 69, 120, 97, 109, 112, 108, 101, 46, 99, 111, 109, 58, 56, 48, 63, 113] = (0, uA) := by kernel_rfl
theorem ex15_b : parseUL [104, 116, 116, 112, 58, 47, 47, 97, 58, 52, 52, 51, 47] = (0, uB) := by kernel_rfl
theorem ex15_c : parseUL [104, 116, 116, 112, 58, 47, 97] = (4, uv0) := by kernel_rfl
theorem ex15_d : (if validX (upU uB) = true then bs (textX (upU uB)) else ⟨#[]⟩) = ⟨#[104, 116, 116, 112, 115, 58, 47, 47, 97, 47]⟩ := by kernel_rfl
theorem hvA_wf : (hvD [97]).Wf := ⟨by decide, z8_wf.1, z8_wf.2⟩
theorem uB_sm : USm uB := ⟨hvA_wf, by decide, by decide, by decide, by decide, by decide, by decide⟩
theorem uB_up : USm (upU uB) := ⟨hvA_wf, by decide, by decide, by decide, by decide, by decide, by decide⟩

set_option maxRecDepth 20000 in
set_option maxHeartbeats 1000000 in
theorem awake15_any (hPar : HoPar 13) (hF : HoFmt 108) (w : World) (hw : Uw w) :
    Calls Tryz.prog 27 #[] w (Yes w) := by
  have c1 := fun W hW => Parse_any hPar ⟨#[72, 84, 84, 80, 58, 47, 47, 117, 58, 112, 64, 69, 120, 97, 109, 112, 108, 101, 46, 99, 111, 109, 58, 56, 48, 63, 113]⟩ W (by decide) hW
  have c2 := fun W hW => Parse_any hPar ⟨#[104, 116, 116, 112, 58, 47, 47, 97, 58, 52, 52, 51, 47]⟩ W (by decide) hW
  have c3 := fun W hW => Parse_any hPar ⟨#[104, 116, 116, 112, 58, 47, 97]⟩ W (by decide) hW
  have c4 := fun W => urlUpgrade_any uB uB_sm W
  have c5 := fun W hW => urlFormat_any hPar hF (upU uB) uB_up W hW
  simp only [ex15_d] at c5
  unfold UrlPost at c1 c2 c3
  simp only [show ls ⟨#[72, 84, 84, 80, 58, 47, 47, 117, 58, 112, 64, 69, 120, 97, 109, 112, 108, 101, 46, 99, 111, 109, 58, 56, 48, 63, 113]⟩ = [72, 84, 84, 80, 58, 47, 47, 117, 58, 112, 64, 69, 120, 97, 109, 112, 108, 101, 46, 99, 111, 109, 58, 56, 48, 63, 113] from rfl, ex15_a] at c1
  simp only [show ls ⟨#[104, 116, 116, 112, 58, 47, 47, 97, 58, 52, 52, 51, 47]⟩ = [104, 116, 116, 112, 58, 47, 47, 97, 58, 52, 52, 51, 47] from rfl, ex15_b] at c2
  simp only [show ls ⟨#[104, 116, 116, 112, 58, 47, 97]⟩ = [104, 116, 116, 112, 58, 47, 97] from rfl, ex15_c] at c3
  have hA : UC uA.cells ⟨#[104, 116, 116, 112]⟩ ⟨#[117, 58, 112]⟩ (bs uA.host.name) uA.host.cells (-1) ⟨#[47, 63, 113]⟩ := uc_facts uA
  have hB := urv_size uB
  have hB1 := urv_one uB
  have hZ := urv_size uv0
  have hZ1 := urv_one uv0
  generalize uA.cells = A at *
  generalize uA.host.cells = HA at *
  generalize bs uA.host.name = NA at *
  generalize uB.cells = B at *
  generalize uv0.cells = Z at *
  generalize (upU uB).cells = V at *
  have HW := Lib.hid hw
  clear hw
  go_enter Tryz.func27, Tryz.ntmps27
  go_wp2_with fail
  refine (c1 _ HW.out).mono ?_
  rintro e w1 ⟨rfl, hbw⟩
  go_wp2_with (first
    | (refine wpList_alloc_arr _ rfl 1 rfl _ rfl uz zeroUrl ?_
       intro W1 g1 hg1 hl1 hR1 hG1
       have h1 : w.heap.size ≤ g1 := by have := hbw.size; omega
       replace hbw := below_row0 hbw hG1 (Nat.le_refl _))
    | (refine wpList_store_url rfl rfl _ _ rfl g1 (by exact rfl) A (by exact rfl) uz hR1 rfl hA.sz hA.one ?_
       intro w2 hr1 hG2
       replace hbw := below_row hbw hG2 (Nat.le_refl _) h1))
  refine (c2 _ (uw_below HW.out hbw)).mono ?_
  rintro e w3 ⟨rfl, hb3⟩
  replace hr1 : RowU w3 g1 A := Row.below hr1 hb3 (Row.lt hr1)
  replace hbw := hbw.trans (hb3.mono hbw.size)
  clear hR1 hG1 hG2 hb3
  go_wp2_with (first
    | (refine wpList_alloc_arr _ rfl 3 rfl _ rfl uz zeroUrl ?_
       intro W3 g3 hg3 hl3 hR3 hG3
       have hne13 : g1 ≠ g3 := by have := Row.lt hr1; omega
       have h3 : w.heap.size ≤ g3 := by have := hbw.size; omega
       replace hr1 : RowU W3 g1 A := Row.grown0 hr1 hG3
       replace hbw := below_row0 hbw hG3 (Nat.le_refl _))
    | (refine wpList_store_url rfl rfl _ _ rfl g3 (by exact rfl) B (by exact rfl) uz hR3 rfl hB hB1 ?_
       intro w4 hr3 hG4
       replace hr1 : RowU w4 g1 A := Row.grown hr1 hG4 hne13
       replace hbw := below_row hbw hG4 (Nat.le_refl _) h3))
  refine (c3 _ (uw_below HW.out hbw)).mono ?_
  rintro e w5 ⟨rfl, hb5⟩
  replace hr1 : RowU w5 g1 A := Row.below hr1 hb5 (Row.lt hr1)
  replace hr3 : RowU w5 g3 B := Row.below hr3 hb5 (Row.lt hr3)
  replace hbw := hbw.trans (hb5.mono hbw.size)
  clear hR3 hG3 hG4 hb5
  go_wp2_with (first
    | (refine wpList_alloc_arr _ rfl 5 rfl _ rfl uz zeroUrl ?_
       intro W5 g5 hg5 hl5 hR5 hG5
       have hne15 : g1 ≠ g5 := by have := Row.lt hr1; omega
       have hne35 : g3 ≠ g5 := by have := Row.lt hr3; omega
       have h5 : w.heap.size ≤ g5 := by have := hbw.size; omega
       replace hr1 : RowU W5 g1 A := Row.grown0 hr1 hG5
       replace hr3 : RowU W5 g3 B := Row.grown0 hr3 hG5
       replace hbw := below_row0 hbw hG5 (Nat.le_refl _))
    | (refine wpList_store_url rfl rfl _ _ rfl g5 (by exact rfl) Z (by exact rfl) uz hR5 rfl hZ hZ1 ?_
       intro w6 hr5 hG6
       replace hr1 : RowU w6 g1 A := Row.grown hr1 hG6 hne15
       replace hr3 : RowU w6 g3 B := Row.grown hr3 hG6 hne35
       replace hbw := below_row hbw hG6 (Nat.le_refl _) h5
       obtain ⟨e0, e1, e3, e13, e14⟩ := hA.cell hr1)
    | (refine wpList_load_url (by rfl) _ rfl g3 (by exact rfl) B hr3 hB ?_)
    | (go_at_call 41; refine (c4 _).mono ?_; rintro e w7 ⟨rfl, hb7⟩
       replace hbw := hbw.trans (hb7.mono hbw.size))
    | (go_at_call 31; refine (c5 _ (uw_below HW.out hbw)).mono ?_; rintro e w8 ⟨rfl, hb8⟩
       replace hbw := hbw.trans (hb8.mono hbw.size)))
  go_ret
  exact ⟨rfl, hbw⟩
end

end Go.Proofs.YtpccpgihldpiiaaGreatDoor
