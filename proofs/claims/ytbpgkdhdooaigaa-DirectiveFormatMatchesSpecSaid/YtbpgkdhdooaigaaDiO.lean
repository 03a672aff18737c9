/-
  The walk of DirectiveRoundTrip: the call returns true.
-/
import Derived.Test.YtbpgkdhdooaigaaDiM
namespace Go.Proofs.Ytbpgkdhdooaigaa
open Go.RowKit

theorem fmt_cases (l : List Dv) : (dirOk l = false ∧ fmtR l = ([], 1)) ∨ (dirOk l = true ∧ fmtR l = ([], 3)) ∨ (dirOk l = true ∧ fmtR l = (dirT l, 0) ∧ (dirT l).length ≤ 4096 ∧ dirL (dirT l) = (l, 0)) := by
  cases h : dirOk l with
  | false => exact .inl ⟨rfl, fmt_bad h⟩
  | true =>
    by_cases hb : 4096 < (dirT l).length
    · exact .inr (.inl ⟨rfl, fmt_long h hb⟩)
    · exact .inr (.inr ⟨rfl, fmt_good h hb, by omega, dirL_text h (by omega)⟩)
theorem LenDv.sm {m : Nat} {l : List Dv} (h : LenDv m l) (hm : m ≤ 1000000) : SmDv l := fun d hd => by have := h d hd; omega

set_option maxRecDepth 20000 in
set_option maxHeartbeats 8000000 in
theorem walkDiR (A : Option Addr) (n c : Nat) (s : ByteArray) (w : World) (hIn : ∃ l, InDv w A n c l) (_hs : s.size ≤ maxLen) :
    Calls Try.prog 5 #[.slice A n c, .string s] w (Yes w) := by
  clear _hs
  obtain ⟨l, hA, hnc, hcm⟩ := hIn
  have cs := smallD_any A n c _ l w hA (by omega) hnc (Nat.le_refl _)
  cases hsm : smallD l with
  | false =>
    rw [hsm] at cs
    clear hsm hA
    go_enter Try.func5, Try.ntmps5
    go_wp2_with fail
    refine cs.mono ?_
    rintro e w1 ⟨rfl, hb⟩
    go_wp2_with fail
    refine (awake18_any _).mono ?_
    rintro e w2 ⟨rfl, hb2⟩
    replace hb := hb.trans (hb2.mono hb.size)
    clear hb2
    go_wp2
    go_ret
    exact ⟨rfl, hb⟩
  | true =>
    rw [hsm] at cs
    by_cases hs : s.size ≤ 4500
    · have n0 : ¬ (4500 : Int) < (s.size : Int) := by omega
      have hS := SmDv.of_small hsm
      have hn40 : n ≤ 40 := by have := (smallD_sm hsm).1; have := hA.1; omega
      have F := fun W (hb : Below w.heap.size w W) => hA.below hb
      have cF := fun W (hb : Below w.heap.size w W) => dirFormat_any A n c w.heap.size l W (F W hb) hS (by omega) hnc hb.size
      have cV := fun W (hb : Below w.heap.size w W) => dirValid_any A n c w.heap.size l W (F W hb) hS (by omega) hnc hb.size
      have cP : ∃ (m : List Dv) (r : Int), m.length ≤ 32 ∧ (∀ W, Calls Try.prog 9 #[.string s] W (DvsPost m r W)) ∧ (r = 0 → dirOk m = true) ∧ SmDv m := by
        refine ⟨(dirL (ls s)).1, (dirL (ls s)).2, dirL_len _, fun W => dirParse_any s (by omega) W, fun h => ?_, (dirL_lens (ls s)).sm (by rw [ls_length]; omega)⟩
        exact dirL_ok (b := ls s) (Prod.ext rfl h)
      obtain ⟨m, r, hm32, cP, hok, hSm⟩ := cP
      have HS := Lib.hid hSm
      have HL := Lib.hid hA.1
      have HFC := Lib.hid (fmt_cases l)
      have HF := Lib.hid F
      clear hsm hA hS hSm hs F
      by_cases hr : r = 0
      · subst hr
        have HOK := Lib.hid (hok rfl)
        clear hok
        rcases HFC.out with ⟨hq, hf⟩ | ⟨hq, hf⟩ | ⟨hq, hf, hz, hp⟩
        · have cF := fun W hb => fmt_at (cF W hb) hf
          rw [hq] at cV
          have eT : ((bs []).toList == ([] : List UInt8)) = true := by rw [toList_ls]; rfl
          clear hq hf HFC
          go_enter Try.func5, Try.ntmps5
          go_wp2_with fail
          refine cs.mono ?_
          rintro e w1 ⟨rfl, hb⟩
          go_wp2_with fail
          refine (cP _).mono ?_
          rintro e w2 ⟨A1, d1, rfl, hc1, _, hh1, hb2⟩
          replace hb := hb.trans (hb2.mono hb.size)
          clear hb2
          have cV1 := dirValid_any A1 m.length d1 w2.heap.size m w2 hh1 HS.out (by omega) hc1 (Nat.le_refl _)
          rw [HOK.out] at cV1
          go_wp2_with fail
          refine cV1.mono ?_
          rintro e w3 ⟨rfl, hb2⟩
          replace hb := hb.trans (hb2.mono hb.size)
          clear hb2
          go_wp2_with fail
          refine (cF _ hb).mono ?_
          rintro e w4 ⟨rfl, hb2⟩
          replace hb := hb.trans (hb2.mono hb.size)
          clear hb2
          go_wp2_with fail
          refine (cV _ hb).mono ?_
          rintro e w5 ⟨rfl, hb2⟩
          replace hb := hb.trans (hb2.mono hb.size)
          clear hb2
          go_wp2_with fail
          refine (awake18_any _).mono ?_
          rintro e w8 ⟨rfl, hb2⟩
          replace hb := hb.trans (hb2.mono hb.size)
          clear hb2
          go_wp2
          go_ret
          exact ⟨rfl, hb⟩
        · have cF := fun W hb => fmt_at (cF W hb) hf
          rw [hq] at cV
          have eT : ((bs []).toList == ([] : List UInt8)) = true := by rw [toList_ls]; rfl
          clear hq hf HFC
          go_enter Try.func5, Try.ntmps5
          go_wp2_with fail
          refine cs.mono ?_
          rintro e w1 ⟨rfl, hb⟩
          go_wp2_with fail
          refine (cP _).mono ?_
          rintro e w2 ⟨A1, d1, rfl, hc1, _, hh1, hb2⟩
          replace hb := hb.trans (hb2.mono hb.size)
          clear hb2
          have cV1 := dirValid_any A1 m.length d1 w2.heap.size m w2 hh1 HS.out (by omega) hc1 (Nat.le_refl _)
          rw [HOK.out] at cV1
          go_wp2_with fail
          refine cV1.mono ?_
          rintro e w3 ⟨rfl, hb2⟩
          replace hb := hb.trans (hb2.mono hb.size)
          clear hb2
          go_wp2_with fail
          refine (cF _ hb).mono ?_
          rintro e w4 ⟨rfl, hb2⟩
          replace hb := hb.trans (hb2.mono hb.size)
          clear hb2
          go_wp2_with fail
          refine (cV _ hb).mono ?_
          rintro e w5 ⟨rfl, hb2⟩
          replace hb := hb.trans (hb2.mono hb.size)
          clear hb2
          go_wp2_with fail
          refine (awake18_any _).mono ?_
          rintro e w8 ⟨rfl, hb2⟩
          replace hb := hb.trans (hb2.mono hb.size)
          clear hb2
          go_wp2
          go_ret
          exact ⟨rfl, hb⟩
        · have cF := fun W hb => fmt_at (cF W hb) hf
          rw [hq] at cV
          have c5 := dirs_at (l := l) (r := 0) (fun W => dirParse_any (bs (dirT l)) (by rw [bs_size]; omega) W) hp
          generalize bs (dirT l) = T at *
          clear hq hf HFC hz hp
          go_enter Try.func5, Try.ntmps5
          go_wp2_with fail
          refine cs.mono ?_
          rintro e w1 ⟨rfl, hb⟩
          go_wp2_with fail
          refine (cP _).mono ?_
          rintro e w2 ⟨A1, d1, rfl, hc1, _, hh1, hb2⟩
          replace hb := hb.trans (hb2.mono hb.size)
          clear hb2
          have cV1 := dirValid_any A1 m.length d1 w2.heap.size m w2 hh1 HS.out (by omega) hc1 (Nat.le_refl _)
          rw [HOK.out] at cV1
          go_wp2_with fail
          refine cV1.mono ?_
          rintro e w3 ⟨rfl, hb2⟩
          replace hb := hb.trans (hb2.mono hb.size)
          clear hb2
          go_wp2_with fail
          refine (cF _ hb).mono ?_
          rintro e w4 ⟨rfl, hb2⟩
          replace hb := hb.trans (hb2.mono hb.size)
          clear hb2
          go_wp2_with fail
          refine (c5 _).mono ?_
          rintro e w6 ⟨A2, d2, rfl, hc2, _, hh2, hb2⟩
          replace hb := hb.trans (hb2.mono hb.size)
          clear hb2
          go_wp2_with fail
          refine (cV _ hb).mono ?_
          rintro e w5 ⟨rfl, hb2⟩
          have hh3 := (hh2.below hb2).more hb2.size
          replace hb := hb.trans (hb2.mono hb.size)
          clear hb2
          have cD := dirs_same A2 A l.length n d2 c l w5.heap.size w5 hh3 ((HF.out _ hb).more hb.size) (Nat.le_refl _) (by have := HL.out; omega) (by omega) hc2 hnc
          go_wp2_with fail
          refine cD.mono ?_
          rintro e w7 ⟨rfl, hb2⟩
          replace hb := hb.trans (hb2.mono hb.size)
          clear hb2
          go_wp2_with fail
          refine (awake18_any _).mono ?_
          rintro e w8 ⟨rfl, hb2⟩
          replace hb := hb.trans (hb2.mono hb.size)
          clear hb2
          go_wp2
          go_ret
          exact ⟨rfl, hb⟩
      · have hr' : (r == 0) = false := by simpa using hr
        clear hok HS
        rcases HFC.out with ⟨hq, hf⟩ | ⟨hq, hf⟩ | ⟨hq, hf, hz, hp⟩
        · have cF := fun W hb => fmt_at (cF W hb) hf
          rw [hq] at cV
          have eT : ((bs []).toList == ([] : List UInt8)) = true := by rw [toList_ls]; rfl
          clear hq hf HFC hr
          go_enter Try.func5, Try.ntmps5
          go_wp2_with fail
          refine cs.mono ?_
          rintro e w1 ⟨rfl, hb⟩
          go_wp2_with fail
          refine (cP _).mono ?_
          rintro e w2 ⟨A1, d1, rfl, hc1, _, hh1, hb2⟩
          replace hb := hb.trans (hb2.mono hb.size)
          clear hb2
          go_wp2_with fail
          refine (cF _ hb).mono ?_
          rintro e w4 ⟨rfl, hb2⟩
          replace hb := hb.trans (hb2.mono hb.size)
          clear hb2
          go_wp2_with fail
          refine (cV _ hb).mono ?_
          rintro e w5 ⟨rfl, hb2⟩
          replace hb := hb.trans (hb2.mono hb.size)
          clear hb2
          go_wp2_with fail
          refine (awake18_any _).mono ?_
          rintro e w8 ⟨rfl, hb2⟩
          replace hb := hb.trans (hb2.mono hb.size)
          clear hb2
          go_wp2
          go_ret
          exact ⟨rfl, hb⟩
        · have cF := fun W hb => fmt_at (cF W hb) hf
          rw [hq] at cV
          have eT : ((bs []).toList == ([] : List UInt8)) = true := by rw [toList_ls]; rfl
          clear hq hf HFC hr
          go_enter Try.func5, Try.ntmps5
          go_wp2_with fail
          refine cs.mono ?_
          rintro e w1 ⟨rfl, hb⟩
          go_wp2_with fail
          refine (cP _).mono ?_
          rintro e w2 ⟨A1, d1, rfl, hc1, _, hh1, hb2⟩
          replace hb := hb.trans (hb2.mono hb.size)
          clear hb2
          go_wp2_with fail
          refine (cF _ hb).mono ?_
          rintro e w4 ⟨rfl, hb2⟩
          replace hb := hb.trans (hb2.mono hb.size)
          clear hb2
          go_wp2_with fail
          refine (cV _ hb).mono ?_
          rintro e w5 ⟨rfl, hb2⟩
          replace hb := hb.trans (hb2.mono hb.size)
          clear hb2
          go_wp2_with fail
          refine (awake18_any _).mono ?_
          rintro e w8 ⟨rfl, hb2⟩
          replace hb := hb.trans (hb2.mono hb.size)
          clear hb2
          go_wp2
          go_ret
          exact ⟨rfl, hb⟩
        · have cF := fun W hb => fmt_at (cF W hb) hf
          rw [hq] at cV
          have c5 := dirs_at (l := l) (r := 0) (fun W => dirParse_any (bs (dirT l)) (by rw [bs_size]; omega) W) hp
          generalize bs (dirT l) = T at *
          clear hq hf HFC hz hp hr
          go_enter Try.func5, Try.ntmps5
          go_wp2_with fail
          refine cs.mono ?_
          rintro e w1 ⟨rfl, hb⟩
          go_wp2_with fail
          refine (cP _).mono ?_
          rintro e w2 ⟨A1, d1, rfl, hc1, _, hh1, hb2⟩
          replace hb := hb.trans (hb2.mono hb.size)
          clear hb2
          go_wp2_with fail
          refine (cF _ hb).mono ?_
          rintro e w4 ⟨rfl, hb2⟩
          replace hb := hb.trans (hb2.mono hb.size)
          clear hb2
          go_wp2_with fail
          refine (c5 _).mono ?_
          rintro e w6 ⟨A2, d2, rfl, hc2, _, hh2, hb2⟩
          replace hb := hb.trans (hb2.mono hb.size)
          clear hb2
          go_wp2_with fail
          refine (cV _ hb).mono ?_
          rintro e w5 ⟨rfl, hb2⟩
          have hh3 := (hh2.below hb2).more hb2.size
          replace hb := hb.trans (hb2.mono hb.size)
          clear hb2
          have cD := dirs_same A2 A l.length n d2 c l w5.heap.size w5 hh3 ((HF.out _ hb).more hb.size) (Nat.le_refl _) (by have := HL.out; omega) (by omega) hc2 hnc
          go_wp2_with fail
          refine cD.mono ?_
          rintro e w7 ⟨rfl, hb2⟩
          replace hb := hb.trans (hb2.mono hb.size)
          clear hb2
          go_wp2_with fail
          refine (awake18_any _).mono ?_
          rintro e w8 ⟨rfl, hb2⟩
          replace hb := hb.trans (hb2.mono hb.size)
          clear hb2
          go_wp2
          go_ret
          exact ⟨rfl, hb⟩
    · have n0 : (4500 : Int) < (s.size : Int) := by omega
      clear hsm hs
      go_enter Try.func5, Try.ntmps5
      go_wp2_with fail
      refine cs.mono ?_
      rintro e w1 ⟨rfl, hb⟩
      go_wp2_with fail
      refine (awake18_any _).mono ?_
      rintro e w2 ⟨rfl, hb2⟩
      replace hb := hb.trans (hb2.mono hb.size)
      clear hb2
      go_wp2
      go_ret
      exact ⟨rfl, hb⟩

end Go.Proofs.Ytbpgkdhdooaigaa
