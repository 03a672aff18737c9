/-
  The walks of QuotedRoundTrip and QuotedTokens: the calls return true.
-/
import Derived.Test.YtfbilfajhlkooaaQdW
import Derived.Test.YtfbilfajhlkooaaKeepS
namespace Go.Proofs.Ytfbilfajhlkooaa
open Go.RowKit

set_option maxRecDepth 20000 in
set_option maxHeartbeats 4000000 in
theorem walkQdR (v b a : ByteArray) (_h1 : v.size ≤ maxLen) (_h2 : b.size ≤ maxLen) (_h3 : a.size ≤ maxLen) (w : World) :
    Calls Try.prog 5 #[.string v, .string b, .string a] w (Yes w) := by
  clear _h1 _h2 _h3
  have HH : Has (w.alloc (.cells #[.string v, .string b, .string a] 9)) (w.heap.size + 1) (some ⟨w.heap.size, 0, none⟩) 3 ([v, b, a].map Value.string) := Has.laid w 9 _ (0, 0) 3 _ rfl rfl
  have cs := short_any 1000 (some ⟨w.heap.size, 0, none⟩) 3 3 [v, b, a] _ _ HH (by decide)
  have hb0 : Below w.heap.size w (w.alloc (.cells #[.string v, .string b, .string a] 9)) := (Below.refl _ _).alloc (Nat.le_refl _) _
  cases hsh : shortB 1000 [v, b, a] with
  | false =>
    rw [hsh] at cs
    clear hsh HH
    go_enter Try.func5, Try.ntmps5
    go_wp2_with fail
    refine cs.mono ?_
    rintro e w' ⟨rfl, rfl⟩
    go_wp2_with fail
    refine (awake17_any _).mono ?_
    rintro e w2 ⟨rfl, hb2⟩
    have hbf := hb0.trans (hb2.mono hb0.size)
    clear hb2
    go_wp2_with fail
    go_ret
    exact ⟨rfl, hbf⟩
  | true =>
    rw [hsh] at cs
    have hz : v.size ≤ 1000 ∧ b.size ≤ 1000 ∧ a.size ≤ 1000 := by
      simp [shortB] at hsh
      omega
    clear hsh HH
    obtain ⟨z1, z2, z3⟩ := hz
    cases hi : (ls v).all inU with
    | false =>
      have c1 : ∀ W, Calls Try.prog 15 #[.string v] W fun e w' => e = .returned (.tuple #[.string ⟨#[]⟩, .int .i64 4]) ∧ Below W.heap.size W w' := quo_at _ (fun W => quote_any v (by omega) W) (quo_no v hi)
      clear hi
      go_enter Try.func5, Try.ntmps5
      go_wp2_with fail
      refine cs.mono ?_
      rintro e w' ⟨rfl, rfl⟩
      go_wp2_with fail
      refine (c1 _).mono ?_
      rintro e w1 ⟨rfl, hb2⟩
      replace hb0 := hb0.trans (hb2.mono hb0.size)
      clear hb2
      go_wp2_with fail
      refine (awake17_any _).mono ?_
      rintro e w2 ⟨rfl, hb2⟩
      have hbf := hb0.trans (hb2.mono hb0.size)
      clear hb2
      go_wp2_with fail
      go_ret
      exact ⟨rfl, hbf⟩
    | true =>
      have c1 := quo_at _ (fun W => quote_any v (by omega) W) (quo_yes v hi)
      have hl : (quoL (ls v)).length ≤ 2 * v.size + 2 := by
        have := escL_len (ls v)
        rw [ls_length] at this
        simp [quoL]
        omega
      have hq := qpar_quoted b v a hi
      rw [show b.size + (quoL (ls v)).length = b.size + (bs (quoL (ls v))).size by rw [bs_size]] at hq
      have hT : (bs (quoL (ls v))).size ≤ 2002 := by rw [bs_size]; omega
      clear hl hi
      generalize bs (quoL (ls v)) = T at *
      have hsz : (b ++ T ++ a).size ≤ 1000000000 := by
        rw [ByteArray.size_append, ByteArray.size_append]
        omega
      have c2 := par_at _ (fun W => parse17_any (b ++ T ++ a) (b.size : Int) (by omega) (by omega) hsz W) hq
      have c2' : ∀ W, Calls Try.prog 9 #[.string (b ++ T ++ a), .int .i64 (b.size : Int)] W fun e w' => e = .returned (.tuple #[.string v, .int .i64 ((b.size : Int) + (T.size : Int)), .int .i64 0]) ∧ Below W.heap.size W w' := by
        intro W
        refine (c2 W).mono ?_
        rintro e w' ⟨h1, h2⟩
        rw [bs_ls, Int.natCast_add] at h1
        exact ⟨h1, h2⟩
      have n1 : ¬ 9223372036854775807 < b.size + T.size := by omega
      have n2 : ¬ 9223372036854775807 < b.size + T.size + a.size := by omega
      have ev : (v.toList == v.toList) = true := by simp
      clear c2 hq hsz
      go_enter Try.func5, Try.ntmps5
      go_wp2_with fail
      refine cs.mono ?_
      rintro e w' ⟨rfl, rfl⟩
      go_wp2_with fail
      refine (c1 _).mono ?_
      rintro e w1 ⟨rfl, hb2⟩
      replace hb0 := hb0.trans (hb2.mono hb0.size)
      clear hb2
      go_wp2_with fail
      refine (c2' _).mono ?_
      rintro e w2 ⟨rfl, hb2⟩
      replace hb0 := hb0.trans (hb2.mono hb0.size)
      clear hb2
      go_wp2_with fail
      refine (awake17_any _).mono ?_
      rintro e w3 ⟨rfl, hb2⟩
      have hbf := hb0.trans (hb2.mono hb0.size)
      clear hb2
      go_wp2_with fail
      go_ret
      exact ⟨rfl, hbf⟩

theorem tok_str (s : ByteArray) (k N : Nat) (h : k + tkN s k = N) (hk : k ≤ s.size) (hs : s.size ≤ 1000) (W : World) :
    Calls Try.prog 9 #[.string ((⟨#[34]⟩ : ByteArray) ++ s.extract k N ++ ⟨#[34]⟩), .int .i64 0] W fun e w' => e = .returned (.tuple #[.string (s.extract k N), .int .i64 ((N : Int) - (k : Int) + 2), .int .i64 0]) ∧ Below W.heap.size W w' := by
  have hq := qpar_tok s k hk
  rw [h] at hq
  have hX : (s.extract k N).size ≤ 1000 := by
    rw [ByteArray.size_extract]
    omega
  have hZ : (bs [34] ++ s.extract k N ++ bs [34]).size ≤ 1000000000 := by
    rw [ByteArray.size_append, ByteArray.size_append, bs_size]
    simp
    omega
  refine (par_at _ (fun W => parse17_any (bs [34] ++ s.extract k N ++ bs [34]) 0 (by decide) (by decide) hZ W) hq W).mono ?_
  rintro e w' ⟨h1, h2⟩
  rw [bs_ls, show ((tkN s k + 2 : Nat) : Int) = (N : Int) - (k : Int) + 2 by omega] at h1
  exact ⟨h1, h2⟩

set_option maxRecDepth 20000 in
set_option maxHeartbeats 4000000 in
theorem walkQdT (s : ByteArray) (i : Int) (_hs : s.size ≤ maxLen) (w0 : (Lit.int .i64 i).wf = true) (w : World) :
    Calls Try.prog 6 #[.string s, .int .i64 i] w (Yes w) := by
  clear _hs
  have hw0 : -9223372036854775808 ≤ i ∧ i ≤ 9223372036854775807 := by
    simp [Lit.wf] at w0
    first | exact w0 | exact ⟨w0.1, by omega⟩ | (constructor <;> omega)
  by_cases hs : s.size ≤ 1000
  · have n0 : ¬ (1000 : Int) < (s.size : Int) := by omega
    have cm := fun W => mod_any i ((s.size : Int) + 1) (by omega) (by omega) hw0.1 hw0.2 W
    have hm0 := Int.emod_nonneg i (b := (s.size : Int) + 1) (by omega)
    have hm1 := Int.emod_lt_of_pos i (b := (s.size : Int) + 1) (by omega)
    have hsw : wrap64 ((s.size : Int) + 1) = (s.size : Int) + 1 := by unfold wrap64; omega
    generalize i % ((s.size : Int) + 1) = m at *
    obtain ⟨k, rfl⟩ : ∃ k : Nat, m = (k : Int) := ⟨m.toNat, by omega⟩
    have hk : k ≤ s.size := by omega
    have ct := fun W => token_any s (k : Int) (by omega) (by omega) (by omega) W
    rw [tkE_nat] at ct
    obtain ⟨N, hN⟩ : ∃ N, k + tkN s k = N := ⟨_, rfl⟩
    have cp := tok_str s k N hN hk hs
    have hNs : N ≤ s.size := by rw [← hN]; exact tkN_le s k hk
    have hkN : k ≤ N := by omega
    have t1 : k < N → isTk (s.extract k N) = true := by
      intro h
      rw [← hN]
      exact sub_tok_is s k (by omega)
    have t2 : N < s.size → isTk (s.extract k (N + 1)) = false := by
      intro h
      rw [← hN] at h ⊢
      exact sub_tok_not s k h
    rw [hN] at ct
    have hx1 : (s.extract k N).size ≤ 1000000000 := by rw [ByteArray.size_extract]; omega
    have hx2 : (s.extract k (N + 1)).size ≤ 1000000000 := by rw [ByteArray.size_extract]; omega
    have c1 := fun W => isTk_any (s.extract k N) hx1 W
    have c2 := fun W => isTk_any (s.extract k (N + 1)) hx2 W
    have hxs : (s.extract k N).size = N - k := by rw [ByteArray.size_extract]; omega
    have nx1 : ¬ 9223372036854775807 < 1 + (s.extract k N).size := by omega
    have nx2 : ¬ 9223372036854775807 < 1 + (s.extract k N).size + 1 := by omega
    have ev : ((s.extract k N).toList == (s.extract k N).toList) = true := by simp
    have hNb : (N : Int) ≤ 1000 := by omega
    have hkb : (k : Int) ≤ 1000 := by omega
    have l1 : ¬ N < k := by omega
    have l2 : ¬ s.size < N := by omega
    clear hN w0 hm0 hm1 hx1 hx2 hxs
    by_cases hlt : k < N
    · rw [t1 hlt] at c1
      by_cases hls : N < s.size
      · rw [t2 hls] at c2
        clear t1 t2
        go_enter Try.func6, Try.ntmps6
        go_wp2_with fail
        refine (cm _).mono ?_
        rintro e w' ⟨rfl, rfl⟩
        go_wp2_with fail
        refine (ct _).mono ?_
        rintro e w' ⟨rfl, rfl⟩
        go_wp2_with fail
        refine (c1 _).mono ?_
        rintro e w' ⟨rfl, rfl⟩
        go_wp2_with fail
        refine (c2 _).mono ?_
        rintro e w' ⟨rfl, rfl⟩
        go_wp2_with fail
        refine (cp _).mono ?_
        rintro e w1 ⟨rfl, hb⟩
        go_wp2_with fail
        refine (awake17_any _).mono ?_
        rintro e w2 ⟨rfl, hb2⟩
        have hbf := hb.trans (hb2.mono hb.size)
        clear hb2
        go_wp2_with fail
        go_ret
        exact ⟨rfl, hbf⟩
      · clear t1 t2 c2
        go_enter Try.func6, Try.ntmps6
        go_wp2_with fail
        refine (cm _).mono ?_
        rintro e w' ⟨rfl, rfl⟩
        go_wp2_with fail
        refine (ct _).mono ?_
        rintro e w' ⟨rfl, rfl⟩
        go_wp2_with fail
        refine (c1 _).mono ?_
        rintro e w' ⟨rfl, rfl⟩
        go_wp2_with fail
        refine (cp _).mono ?_
        rintro e w1 ⟨rfl, hb⟩
        go_wp2_with fail
        refine (awake17_any _).mono ?_
        rintro e w2 ⟨rfl, hb2⟩
        have hbf := hb.trans (hb2.mono hb.size)
        clear hb2
        go_wp2_with fail
        go_ret
        exact ⟨rfl, hbf⟩
    · clear c1
      by_cases hls : N < s.size
      · rw [t2 hls] at c2
        clear t1 t2
        go_enter Try.func6, Try.ntmps6
        go_wp2_with fail
        refine (cm _).mono ?_
        rintro e w' ⟨rfl, rfl⟩
        go_wp2_with fail
        refine (ct _).mono ?_
        rintro e w' ⟨rfl, rfl⟩
        go_wp2_with fail
        refine (c2 _).mono ?_
        rintro e w' ⟨rfl, rfl⟩
        go_wp2_with fail
        refine (cp _).mono ?_
        rintro e w1 ⟨rfl, hb⟩
        go_wp2_with fail
        refine (awake17_any _).mono ?_
        rintro e w2 ⟨rfl, hb2⟩
        have hbf := hb.trans (hb2.mono hb.size)
        clear hb2
        go_wp2_with fail
        go_ret
        exact ⟨rfl, hbf⟩
      · clear t1 t2 c2
        go_enter Try.func6, Try.ntmps6
        go_wp2_with fail
        refine (cm _).mono ?_
        rintro e w' ⟨rfl, rfl⟩
        go_wp2_with fail
        refine (ct _).mono ?_
        rintro e w' ⟨rfl, rfl⟩
        go_wp2_with fail
        refine (cp _).mono ?_
        rintro e w1 ⟨rfl, hb⟩
        go_wp2_with fail
        refine (awake17_any _).mono ?_
        rintro e w2 ⟨rfl, hb2⟩
        have hbf := hb.trans (hb2.mono hb.size)
        clear hb2
        go_wp2_with fail
        go_ret
        exact ⟨rfl, hbf⟩
  · have n0 : (1000 : Int) < (s.size : Int) := by omega
    clear hs w0 hw0
    go_enter Try.func6, Try.ntmps6
    go_wp2_with fail
    refine (awake17_any _).mono ?_
    rintro e w' ⟨rfl, hbw⟩
    go_wp2_with fail
    go_ret
    exact ⟨rfl, hbw⟩

end Go.Proofs.Ytfbilfajhlkooaa
