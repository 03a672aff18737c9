/-
  The fixed examples of the statements of layer 17 (awake) hold; the walks of QuotedQuoteMatchesSpec and QuotedParseMatchesSpec: the calls return true.
-/
import Derived.Test.YtfbilfajhlkooaaQdC
import Derived.Test.YtfbilfajhlkooaaQdS
import Derived.Test.YtfbilfajhlkooaaYes
import Derived.Test.YtfbilfajhlkooaaMod
namespace Go.Proofs.Ytfbilfajhlkooaa
open Go.RowKit

theorem ex_par : qpar ⟨#[120, 61, 34, 97, 92, 34, 98, 34]⟩ 2 = ([97, 34, 98], 8, 0) := by decide +kernel
theorem ex_quo : quoS ⟨#[97, 34, 98]⟩ = bs [34, 97, 92, 34, 98, 34] ∧ quoE ⟨#[97, 34, 98]⟩ = 0 := by
  refine quo_yes _ ?_
  decide +kernel
theorem ex_cut : qpar ⟨#[34, 97]⟩ 0 = ([], 0, 5) := by decide +kernel
theorem ex_tok : isTk ⟨#[97, 45, 98]⟩ = true := by decide +kernel
theorem ex_end : tkE ⟨#[97, 98, 32, 99]⟩ 0 = 2 := by decide +kernel

theorem par_at {s : ByteArray} {i : Int} {v : List UInt8} {n : Nat} {r : Int} (f : FuncId) (hh : ∀ w, Calls Try.prog f #[.string s, .int .i64 i] w (QRes s i w)) (h : qpar s i = (v, n, r)) (w : World) :
    Calls Try.prog f #[.string s, .int .i64 i] w fun e w' => e = .returned (.tuple #[.string (bs v), .int .i64 (n : Int), .int .i64 r]) ∧ Below w.heap.size w w' := by
  refine (hh w).mono ?_
  rintro e w' ⟨h1, h2⟩
  rw [h] at h1
  exact ⟨h1, h2⟩
theorem quo_at {s : ByteArray} {t : ByteArray} {r : Int} (f : FuncId) (hh : ∀ w, Calls Try.prog f #[.string s] w (URes s w)) (h : quoS s = t ∧ quoE s = r) (w : World) :
    Calls Try.prog f #[.string s] w fun e w' => e = .returned (.tuple #[.string t, .int .i64 r]) ∧ Below w.heap.size w w' := by
  refine (hh w).mono ?_
  rintro e w' ⟨h1, h2⟩
  rw [h.1, h.2] at h1
  exact ⟨h1, h2⟩

set_option maxRecDepth 20000 in
set_option maxHeartbeats 2000000 in
theorem awake17_any (w : World) : Calls Try.prog 7 #[] w (Yes w) := by
  have c1 : ∀ W, Calls Try.prog 9 #[.string ⟨#[120, 61, 34, 97, 92, 34, 98, 34]⟩, .int .i64 2] W fun e w' => e = .returned (.tuple #[.string ⟨#[97, 34, 98]⟩, .int .i64 8, .int .i64 0]) ∧ Below W.heap.size W w' := par_at _ (fun W => parse17_any ⟨#[120, 61, 34, 97, 92, 34, 98, 34]⟩ 2 (by decide) (by decide) (by decide) W) ex_par
  have c2 : ∀ W, Calls Try.prog 15 #[.string ⟨#[97, 34, 98]⟩] W fun e w' => e = .returned (.tuple #[.string ⟨#[34, 97, 92, 34, 98, 34]⟩, .int .i64 0]) ∧ Below W.heap.size W w' := quo_at _ (fun W => quote_any ⟨#[97, 34, 98]⟩ (by decide) W) ex_quo
  have c3 : ∀ W, Calls Try.prog 9 #[.string ⟨#[34, 97]⟩, .int .i64 0] W fun e w' => e = .returned (.tuple #[.string ⟨#[]⟩, .int .i64 0, .int .i64 5]) ∧ Below W.heap.size W w' := par_at _ (fun W => parse17_any ⟨#[34, 97]⟩ 0 (by decide) (by decide) (by decide) W) ex_cut
  have c4 := fun W => isTk_any ⟨#[97, 45, 98]⟩ (by decide) W
  have c5 := fun W => token_any ⟨#[97, 98, 32, 99]⟩ 0 (by decide) (by decide) (by decide) W
  rw [ex_tok] at c4
  rw [ex_end] at c5
  go_enter Try.func7, Try.ntmps7
  go_wp2_with fail
  refine (c1 _).mono ?_
  rintro e w1 ⟨rfl, hb⟩
  go_wp2_with fail
  refine (c2 _).mono ?_
  rintro e w2 ⟨rfl, hb2⟩
  replace hb := hb.trans (hb2.mono hb.size)
  clear hb2
  go_wp2_with fail
  refine (c3 _).mono ?_
  rintro e w3 ⟨rfl, hb2⟩
  replace hb := hb.trans (hb2.mono hb.size)
  clear hb2
  go_wp2_with fail
  refine (c4 _).mono ?_
  rintro e w' ⟨rfl, rfl⟩
  go_wp2_with fail
  refine (c5 _).mono ?_
  rintro e w' ⟨rfl, rfl⟩
  go_wp2_with fail
  go_ret
  exact ⟨rfl, hb⟩

set_option maxHeartbeats 4000000 in
theorem walkQdQ (v : ByteArray) (_hs : v.size ≤ maxLen) (w : World) :
    Calls Try.prog 4 #[.string v] w (Yes w) := by
  clear _hs
  by_cases hs : v.size ≤ 2000
  · have n0 : ¬ (2000 : Int) < (v.size : Int) := by omega
    have c1 := quo_at _ (fun W => quote_any v (by omega) W) ⟨rfl, rfl⟩
    have c2 := fun W => refQuote_any17 v (by omega) W
    generalize quoS v = T at *
    generalize quoE v = E at *
    have e1 : (T.toList == T.toList) = true := by simp
    go_enter Try.func4, Try.ntmps4
    go_wp2_with fail
    refine (c1 _).mono ?_
    rintro e w1 ⟨rfl, hb⟩
    go_wp2_with fail
    refine (c2 _).mono ?_
    rintro e w' ⟨rfl, rfl⟩
    go_wp2_with fail
    refine (awake17_any _).mono ?_
    rintro e w2 ⟨rfl, hb2⟩
    replace hb := hb.trans (hb2.mono hb.size)
    clear hb2
    go_wp2_with fail
    go_ret
    exact ⟨rfl, hb⟩
  · have n0 : (2000 : Int) < (v.size : Int) := by omega
    clear hs
    go_enter Try.func4, Try.ntmps4
    go_wp2_with fail
    refine (awake17_any _).mono ?_
    rintro e w' ⟨rfl, hbw⟩
    go_wp2_with fail
    go_ret
    exact ⟨rfl, hbw⟩

theorem drewN_belQ (B : Nat) (w : World) (k : Nat) : Below B w (w.drewN k) := ⟨rfl, rfl, rfl, Nat.le_refl _, fun _ _ => rfl⟩
theorem quiet_same17 {P : Program} {f : FuncId} {args : Array Value} {w : World} {n : Nat} {v : Value}
    (h : Calls P f args (w.drewN n) fun e w' => e = .returned v ∧ w.drewN n = w') : Calls P f args (w.drewN n) fun e w'' => e = .returned v ∧ ∃ m, w'' = w.drewN m :=
  h.mono fun _ _ ⟨he, hm⟩ => ⟨he, n, hm.symm⟩

set_option maxRecDepth 20000 in
set_option maxHeartbeats 4000000 in
theorem walkQdP (s : ByteArray) (i : Int) (_hs : s.size ≤ maxLen) (w0 : (Lit.int .i64 i).wf = true) (w : World) :
    Calls Try.prog 3 #[.string s, .int .i64 i] w (Yes w) := by
  clear _hs
  have hw0 : -9223372036854775808 ≤ i ∧ i ≤ 9223372036854775807 := by
    simp [Lit.wf] at w0
    first | exact w0 | exact ⟨w0.1, by omega⟩ | (constructor <;> omega)
  by_cases hs : s.size ≤ 2000
  · have n0 : ¬ (2000 : Int) < (s.size : Int) := by omega
    have cm := fun W => mod_any i ((s.size : Int) + 1) (by omega) (by omega) hw0.1 hw0.2 W
    have hm0 := Int.emod_nonneg i (b := (s.size : Int) + 1) (by omega)
    have hm1 := Int.emod_lt_of_pos i (b := (s.size : Int) + 1) (by omega)
    have hsw : wrap64 ((s.size : Int) + 1) = (s.size : Int) + 1 := by unfold wrap64; omega
    generalize i % ((s.size : Int) + 1) = m at *
    have P1 : ∀ x : Int, -9223372036854775808 ≤ x → x ≤ 9223372036854775807 → Hid (∀ W, Calls Try.prog 9 #[.string s, .int .i64 x] W (QRes s x W)) := fun x a b => Lib.hid fun W => parse17_any s x a b (by omega) W
    have P2 : ∀ x : Int, -9223372036854775808 ≤ x → x ≤ 9223372036854775807 → Hid (∀ W, Calls Try.prog 10 #[.string s, .int .i64 x] W (QRes s x W)) := fun x a b => Lib.hid fun W => refParse_any17 s x a b (by omega) W
    have P3 : ∀ x : Int, -9223372036854775808 ≤ x → x ≤ 9223372036854775807 → Hid (∀ W, Calls Try.prog 11 #[.string s, .int .i64 x] W fun e w' => e = .returned (.int .i64 (tkE s x)) ∧ W = w') := fun x a b => Lib.hid fun W => token_any s x a b (by omega) W
    have P4 : ∀ x : Int, -9223372036854775808 ≤ x → x ≤ 9223372036854775807 → Hid (∀ W, Calls Try.prog 12 #[.string s, .int .i64 x] W fun e w' => e = .returned (.int .i64 (tkE s x)) ∧ W = w') := fun x a b => Lib.hid fun W => refToken_any17 s x a b (by omega) W
    have c5 := fun W => isTk_any s (by omega) W
    have c6 := fun W => refIsTk_any s (by omega) W
    generalize isTk s = K at *
    have ek : (K == K) = true := by simp
    have hmb : -9223372036854775808 ≤ m ∧ m ≤ 9223372036854775807 := by omega
    clear w0 hm0 hm1 hs
    go_enter Try.func3, Try.ntmps3
    go_wp2_with fail
    refine (cm _).mono ?_
    rintro e w' ⟨rfl, rfl⟩
    go_wp2_with fail
    go_loopw [6] (fun t wr => ∃ (k : Nat), k ≤ 2 ∧ t = .int .i64 k ∧ Hid (Below (w.heap.size + 1) (w.alloc (.cells #[.int .i64 i, .int .i64 m] 3)) wr)) (fun t _ => 2 - (RowKit.intOf t).toNat)
    case atStart => exact ⟨0, Nat.zero_le _, rfl, Lib.hid (Below.refl _ _)⟩
    case round =>
      obtain ⟨k, hk, rfl, HW⟩ := hrel
      have hB : Hid (Below w.heap.size w wr) := Lib.hid (((Below.refl _ _).alloc (Nat.le_refl _) _).trans (HW.out.mono (Nat.le_succ _)))
      by_cases hlt : k < 2
      · obtain ⟨x, hx1, hx2, hc⟩ : ∃ x : Int, -9223372036854775808 ≤ x ∧ x ≤ 9223372036854775807 ∧ (w.alloc (.cells #[.int .i64 i, .int .i64 m] 3)).cell? ⟨w.heap.size, k, none⟩ = some (.int .i64 x) := by
          rcases (by omega : k = 0 ∨ k = 1) with rfl | rfl
          · exact ⟨i, hw0.1, hw0.2, by rw [World.cell?_alloc_at _ _ _ _ rfl]; rfl⟩
          · exact ⟨m, hmb.1, hmb.2, by rw [World.cell?_alloc_at _ _ _ _ rfl]; rfl⟩
        have c1 := (P1 x hx1 hx2).out
        have c2 := (P2 x hx1 hx2).out
        have c3 := (P3 x hx1 hx2).out
        have c4 := (P4 x hx1 hx2).out
        have HC : ∀ W, Below (w.heap.size + 1) (w.alloc (.cells #[.int .i64 i, .int .i64 m] 3)) W → W.cell? ⟨w.heap.size, k, none⟩ = some (.int .i64 x) := fun W h => (h.cell (p := ⟨w.heap.size, k, none⟩) (Nat.lt_succ_self _)).trans hc
        have g0 := HC wr HW.out
        obtain ⟨V, N, E, hq⟩ : ∃ V N E, qpar s x = (V, N, E) := ⟨_, _, _, rfl⟩
        have c1' := par_at _ c1 hq
        have c2' := par_at _ c2 hq
        have HC := Lib.hid HC
        clear c1 c2 hq hc hx1 hx2
        generalize tkE s x = T at *
        generalize bs V = Z at *
        have b1 : (Z.toList == Z.toList) = true := by simp
        go_wp2_with fail
        refine (c1' _).mono ?_
        rintro e w1 ⟨rfl, hb1⟩
        have HW1 := Lib.hid (HW.out.trans (hb1.mono (Nat.le_trans (Nat.le_of_eq (by simp)) HW.out.size)))
        clear hb1 g0
        have g1 := HC.out _ HW1.out
        go_wp2_with fail
        refine (c2' _).mono ?_
        rintro e w2 ⟨rfl, hb1⟩
        have HW2 := Lib.hid (HW1.out.trans (hb1.mono (Nat.le_trans (Nat.le_of_eq (by simp)) HW1.out.size)))
        clear hb1 g1
        have g2 := HC.out _ HW2.out
        go_wp2
        go_quiet ((first | (go_at_call 11; exact quiet_same17 (c3 _)) | (go_at_call 12; exact quiet_same17 (c4 _))))
        go_wp2
        go_roundw
        case rel => exact ⟨k + 1, by omega, by go_num, Lib.hid (HW2.out.trans (drewN_belQ _ _ _))⟩
        case measure => simp [RowKit.intOf]; omega
      · obtain rfl : k = 2 := by omega
        go_wp2_with fail
        refine (c5 _).mono ?_
        rintro e w' ⟨rfl, rfl⟩
        go_wp2_with fail
        refine (c6 _).mono ?_
        rintro e w' ⟨rfl, rfl⟩
        go_wp2_with fail
        refine (awake17_any _).mono ?_
        rintro e w2 ⟨rfl, hb2⟩
        have hbf := hB.out.trans (hb2.mono hB.out.size)
        clear hb2
        go_wp2_with fail
        go_ret
        exact ⟨rfl, hbf⟩
  · have n0 : (2000 : Int) < (s.size : Int) := by omega
    clear hs w0 hw0
    go_enter Try.func3, Try.ntmps3
    go_wp2_with fail
    refine (awake17_any _).mono ?_
    rintro e w' ⟨rfl, hbw⟩
    go_wp2_with fail
    go_ret
    exact ⟨rfl, hbw⟩

end Go.Proofs.Ytfbilfajhlkooaa
