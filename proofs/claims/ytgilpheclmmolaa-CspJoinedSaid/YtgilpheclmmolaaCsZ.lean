/-
  The walk of CspJoined: it returns true.
-/
import Derived.Test.YtgilpheclmmolaaCsY
namespace Go.Proofs.Ytgilpheclmmolaa
open Go.RowKit

theorem joinL_snoc (c : UInt8) : ∀ (p : List (List UInt8)) (a : List UInt8), p ≠ [] → joinL c (p ++ [a]) = joinL c p ++ c :: a
  | [], _, h => absurd rfl h
  | [x], a, _ => by
    show joinL c (x :: [a]) = _
    rw [joinL_cons c x [a] (by simp)]
    rfl
  | x :: y :: r, a, _ => by
    rw [List.cons_append, joinL_cons c x ((y :: r) ++ [a]) (by simp), joinL_snoc c (y :: r) a (by simp), joinL_cons c x (y :: r) (by simp)]
    simp
theorem join_first {vs : List (List UInt8)} (h : 0 < vs.length) : bs (joinL 44 (vs.take 0)) ++ bs vs[0] = bs (joinL 44 (vs.take 1)) := by
  refine ls_inj ?_
  rw [ls_append, ls_bs, ls_bs, ls_bs, List.take_succ_eq_append_getElem h]
  rfl
theorem join_next {vs : List (List UInt8)} {k : Nat} (h : k < vs.length) (hk : 0 < k) : bs (joinL 44 (vs.take k)) ++ (⟨#[44]⟩ : ByteArray) ++ bs vs[k] = bs (joinL 44 (vs.take (k + 1))) := by
  refine ls_inj ?_
  rw [ls_append, ls_append, ls_bs, ls_bs, ls_bs, List.take_succ_eq_append_getElem h, joinL_snoc 44 (vs.take k) vs[k] (by
    intro e
    have := congrArg List.length e
    rw [List.length_take, List.length_nil] at this
    omega)]
  simp [ls]
theorem join_small {vs : List (List UInt8)} (h : ∀ v ∈ vs, v.length ≤ 4500) : ∀ k, k ≤ vs.length → (joinL 44 (vs.take k)).length ≤ k * 4501
  | 0, _ => by simp [joinL]
  | k + 1, hk => by
    have ih := join_small h k (by omega)
    have hv := h vs[k] (List.getElem_mem (by omega))
    by_cases h0 : k = 0
    · subst h0
      have := join_first (vs := vs) (by omega)
      have e := congrArg ByteArray.size this
      rw [ByteArray.size_append, bs_size, bs_size, bs_size] at e
      simp only [List.take_zero] at e ih
      show (joinL 44 (vs.take 1)).length ≤ _
      omega
    · have := join_next (vs := vs) (k := k) (by omega) (by omega)
      have e := congrArg ByteArray.size this
      rw [ByteArray.size_append, ByteArray.size_append, bs_size, bs_size, bs_size] at e
      have e1 : (⟨#[44]⟩ : ByteArray).size = 1 := rfl
      omega

set_option maxRecDepth 20000 in
set_option maxHeartbeats 8000000 in
theorem walkCJ (A : Option Addr) (n cap : Nat) (w : World) (hI : ∃ PS, InStr w A n cap PS) :
    Calls Try.prog 4 #[.slice A n cap] w (Yes w) := by
  obtain ⟨PS, hI⟩ := hI
  obtain ⟨vs, rfl, hH, hlm, _⟩ := in_wv hI
  clear hI
  have cw := awake20_any
  have csm := small20_any A cap vs w hlm hH
  cases hq : smB vs with
  | false =>
    rw [hq] at csm
    clear hH hq
    go_enter Try.func4, Try.ntmps4
    go_wp2_with fail
    refine csm.mono ?_
    rintro e w1 ⟨rfl, rfl⟩
    go_wp2_with fail
    refine (cw _).mono ?_
    rintro e w1 ⟨rfl, hb⟩
    go_wp2
    go_ret
    exact ⟨rfl, hb⟩
  | true =>
    obtain ⟨h12, hsz⟩ := small_sizes hq
    rw [hq] at csm
    have hjs := join_small hsz
    clear hq
    go_enter Try.func4, Try.ntmps4
    go_wp2_with fail
    refine csm.mono ?_
    rintro e w0 ⟨rfl, rfl⟩
    go_wp2
    go_loop [3, 4] (fun t i => ∃ (k : Nat) (S : ByteArray), i = .int .i64 k ∧ t = .string S ∧ k ≤ vs.length ∧ Hid (S = bs (joinL 44 (vs.take k)))) (fun _ i => vs.length - (intOf i).toNat)
    case atStart => exact ⟨0, ⟨#[]⟩, rfl, rfl, Nat.zero_le _, Lib.hid rfl⟩
    case round =>
      obtain ⟨k, S, rfl, rfl, hk, HS⟩ := hrel
      have hS9 : S.size ≤ 100000 := by
        rw [HS.out, bs_size]
        have := hjs k hk
        omega
      by_cases hlt : k < vs.length
      · obtain ⟨b, off, rfl, hc⟩ := str_cell hH k hlt
        rw [List.getD_eq_getElem?_getD, List.getElem?_eq_getElem hlt, Option.getD_some] at hc
        have hv := hsz _ (List.getElem_mem hlt)
        have hVs : (bs vs[k]).size ≤ 4500 := by rw [bs_size]; exact hv
        by_cases h0 : k = 0
        · subst h0
          rw [Nat.add_zero] at hc
          have HN : Hid (S ++ bs vs[0] = bs (joinL 44 (vs.take 1))) := Lib.hid (by rw [HS.out]; exact join_first hlt)
          generalize bs vs[0] = V at *
          have hz : (S ++ V).size ≤ 1000000 := by rw [ByteArray.size_append]; omega
          clear hv
          go_wp2
          go_round
          case rel => exact ⟨1, _, by go_num, rfl, by omega, HN⟩
          case measure => simp [intOf]; omega
        · have hk0 : 0 < k := by omega
          have HN : Hid (S ++ (⟨#[44]⟩ : ByteArray) ++ bs vs[k] = bs (joinL 44 (vs.take (k + 1)))) := Lib.hid (by rw [HS.out]; exact join_next hlt hk0)
          generalize bs vs[k] = V at *
          have hz1 : (S ++ (⟨#[44]⟩ : ByteArray)).size ≤ 1000000 := by rw [ByteArray.size_append]; show S.size + 1 ≤ _; omega
          have hz : (S ++ (⟨#[44]⟩ : ByteArray) ++ V).size ≤ 1000000 := by rw [ByteArray.size_append, ByteArray.size_append]; show S.size + 1 + V.size ≤ _; omega
          clear hv h0
          go_wp2
          go_round
          case rel => exact ⟨k + 1, _, by go_num, rfl, by omega, HN⟩
          case measure => simp [intOf]; omega
      · obtain rfl : k = vs.length := by omega
        have hJ : S = bs (joinL 44 vs) := by rw [HS.out, List.take_length]
        have hJl : (joinL 44 vs).length = S.size := by rw [hJ, bs_size]
        have hlS : ls S = joinL 44 vs := by rw [hJ, ls_bs]
        clear HS hlt hk
        by_cases hbig : 4096 < S.size
        · have hd : decide ((4096 : Int) < (S.size : Int)) = true := decide_eq_true (by omega)
          clear hJl hJ hlS hH
          go_wp2_with fail
          refine (cw _).mono ?_
          rintro e w1 ⟨rfl, hb⟩
          go_wp2
          go_ret
          exact ⟨rfl, hb⟩
        · have hd : decide ((4096 : Int) < (S.size : Int)) = false := decide_eq_false (by omega)
          obtain ⟨hm1, hm2⟩ := merge_join (vs := vs) (by omega)
          have hl1 := mer_len (vs := vs) (by omega)
          have c1 := fun W => pPar S W (by unfold maxLen; omega)
          have c3 := fun W hh => pMer A cap vs W (by omega) (fun v hv => by have := hsz v hv; unfold maxLen; omega) hh
          rw [hlS, hm1] at c1
          rw [hm2] at c3 hl1
          generalize vs.foldl addV cv0 = m1 at *
          dsimp only at hl1
          clear hm1 hm2 hJl hJ hlS hsz hjs
          go_wp2_with fail
          refine (c1 _).mono ?_
          rintro e w1 ⟨A1, k1, rfl, hk1, hh1, hb1⟩
          dsimp only at hh1
          go_wp2_with (first
            | (refine wpList_alloc_arr _ rfl 5 rfl _ rfl #[.bool false, .bool false, .slice none 0 0] zeroCv ?_; intro W2 p1 hp1 hq1 hR1 hG1)
            | (refine wpList_store_cv rfl rfl _ _ rfl p1 (by exact rfl) _ _ _ _ _ (by exact rfl) _ _ _ _ _ hR1 ?_; intro W3 hr1 hG3))
          have hE := VarC.boxed (c := m1) hh1 hb1 hp1 hG1 hR1 hr1 hG3
          clear hh1 hb1 hp1 hq1 hR1 hG1 hr1 hG3 hk1
          refine (c3 _ ((hH.below hE.bel).more hE.bel.size)).mono ?_
          rintro e w3 ⟨A3, k3, rfl, hk3, hh3, hb3⟩
          replace hE := hE.call hb3
          dsimp only at hh3
          clear c1 c3
          go_wp2_with (first
            | (refine wpList_alloc_arr _ rfl 7 rfl _ rfl #[.bool false, .bool false, .slice none 0 0] zeroCv ?_; intro W6 p3 hp3 hq3 hR3 hG6)
            | (refine wpList_store_cv rfl rfl _ _ rfl p3 (by exact rfl) _ _ _ _ _ (by exact rfl) _ _ _ _ _ hR3 ?_; intro W7 hr3 hG7
               have hM := VarC.boxed (c := m1) hh3 hE.bel hp3 hG6 hR3 hr3 hG7
               have hE9 := hE.pass hp3 hG6 hG7
               clear hE hh3 hb3 hp3 hq3 hR3 hG6 hr3 hG7 hk3)
            | (refine wpList_load_cv (by rfl) _ rfl p1 (by exact rfl) _ _ _ _ _ hE9.row ?_)
            | (refine wpList_load_cv (by rfl) _ rfl p3 (by exact rfl) _ _ _ _ _ hM.row ?_))
          refine (csps_same m1 A1 A3 k1 k3 _ _ hE9.has hM.has (Nat.le_refl _) hl1).mono ?_
          rintro e w5 ⟨rfl, hb5⟩
          have hbel := hE9.bel.trans (hb5.mono hE9.bel.size)
          clear hE9 hM hb5
          go_wp2_with fail
          refine (cw _).mono ?_
          rintro e w7 ⟨rfl, hb7⟩
          go_wp2
          go_ret
          exact ⟨rfl, hbel.trans (hb7.mono hbel.size)⟩

end Go.Proofs.Ytgilpheclmmolaa
