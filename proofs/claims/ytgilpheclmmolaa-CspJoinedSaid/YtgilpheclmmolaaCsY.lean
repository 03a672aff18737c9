/-
  The walk of CspMatchesSpec: it returns true.
-/
import Derived.Test.YtgilpheclmmolaaCsX
namespace Go.Proofs.Ytgilpheclmmolaa
open Go.RowKit

theorem mer_len {vs : List (List UInt8)} (h : vs.length ≤ 20) : (mergeC vs).1.names.length ≤ 1000000000 := by
  unfold mergeC
  cases ht : tooL vs with
  | true => simp [cv0]
  | false =>
    unfold tooL at ht
    rw [List.any_eq_false] at ht
    have h1 := nmK_len (vs := vs) vs.length (Nat.le_refl _) (fun j hj _ => by have := ht vs[j] (List.getElem_mem hj); simp at this; omega)
    unfold nmK at h1
    rw [List.take_length] at h1
    show (vs.foldl addV cv0).names.length ≤ _
    omega
set_option maxRecDepth 20000 in
set_option maxHeartbeats 8000000 in
theorem walkCM (s : ByteArray) (A : Option Addr) (n cap : Nat) (w : World) (_ : s.size ≤ maxLen) (hI : ∃ PS, InStr w A n cap PS) :
    Calls Try.prog 3 #[.string s, .slice A n cap] w (Yes w) := by
  obtain ⟨PS, hI⟩ := hI
  obtain ⟨vs, rfl, hH, hlm, _⟩ := in_wv hI
  clear hI
  have cw := awake20_any
  by_cases hz : s.size ≤ 4500
  · have hd : decide ((4500 : Int) < (s.size : Int)) = false := decide_eq_false (by omega)
    have csm := small20_any A cap vs w hlm hH
    cases hq : smB vs with
    | false =>
      rw [hq] at csm
      clear hH hq
      go_enter Try.func3, Try.ntmps3
      go_wp2_with fail
      refine csm.mono ?_
      rintro e w1 ⟨rfl, rfl⟩
      go_wp2_with fail
      refine (cw _).mono ?_
      rintro e w1 ⟨rfl, hb⟩
      go_wp2
      go_ret
      exact ⟨rfl, hb⟩
    | true =>
      obtain ⟨h12, hsz⟩ := small_sizes hq
      rw [hq] at csm
      have hl1 := mer_len (vs := [ls s]) (by simp)
      have hl2 := mer_len (vs := vs) (by omega)
      have c1 := fun W => pPar s W (by unfold maxLen; omega)
      have c2 := fun W => refPar s W (by unfold maxLen; omega)
      have c3 := fun W hh => pMer A cap vs W (by omega) (fun v hv => by have := hsz v hv; unfold maxLen; omega) hh
      have c4 := fun W hh => refMerge_any A cap vs W (by omega) (fun v hv => by have := hsz v hv; unfold maxLen; omega) hh
      have e1 : ((mergeC [ls s]).2 == (mergeC [ls s]).2) = true := by simp
      have e2 : ((mergeC vs).2 == (mergeC vs).2) = true := by simp
      generalize mergeC [ls s] = R1 at *
      generalize mergeC vs = R2 at *
      obtain ⟨m1, x1⟩ := R1
      obtain ⟨m2, x2⟩ := R2
      dsimp only at e1 e2 hl1 hl2
      clear hq hsz
      go_enter Try.func3, Try.ntmps3
      go_wp2_with fail
      refine csm.mono ?_
      rintro e w0 ⟨rfl, rfl⟩
      go_wp2_with fail
      refine (c1 _).mono ?_
      rintro e w1 ⟨A1, k1, rfl, hk1, hh1, hb1⟩
      have hH1 := hH.below hb1
      dsimp only at hh1
      go_wp2_with (first
        | (refine wpList_alloc_arr _ rfl 5 rfl _ rfl #[.bool false, .bool false, .slice none 0 0] zeroCv ?_; intro W2 p1 hp1 hq1 hR1 hG1)
        | (refine wpList_store_cv rfl rfl _ _ rfl p1 (by exact rfl) _ _ _ _ _ (by exact rfl) _ _ _ _ _ hR1 ?_; intro W3 hr1 hG3))
      have hE := VarC.boxed (c := m1) hh1 hb1 hp1 hG1 hR1 hr1 hG3
      clear csm hH1 hh1 hb1 hp1 hq1 hR1 hG1 hr1 hG3 hk1
      refine (c2 _).mono ?_
      rintro e w2 ⟨A2, k2, rfl, hk2, hh2, hb2⟩
      have hE := hE.call hb2
      dsimp only at hh2
      go_wp2_with (first
        | (refine wpList_alloc_arr _ rfl 7 rfl _ rfl #[.bool false, .bool false, .slice none 0 0] zeroCv ?_; intro W4 p2 hp2 hq2 hR2 hG2)
        | (refine wpList_store_cv rfl rfl _ _ rfl p2 (by exact rfl) _ _ _ _ _ (by exact rfl) _ _ _ _ _ hR2 ?_; intro W5 hr2 hG5))
      have hF := VarC.boxed (c := m1) hh2 hE.bel hp2 hG2 hR2 hr2 hG5
      replace hE := hE.pass hp2 hG2 hG5
      clear hh2 hb2 hp2 hq2 hR2 hG2 hr2 hG5 hk2
      refine (c3 _ ((hH.below hE.bel).more hE.bel.size)).mono ?_
      rintro e w3 ⟨A3, k3, rfl, hk3, hh3, hb3⟩
      replace hE := hE.call hb3
      replace hF := hF.call hb3
      dsimp only at hh3
      go_wp2_with (first
        | (refine wpList_alloc_arr _ rfl 9 rfl _ rfl #[.bool false, .bool false, .slice none 0 0] zeroCv ?_; intro W6 p3 hp3 hq3 hR3 hG6)
        | (refine wpList_store_cv rfl rfl _ _ rfl p3 (by exact rfl) _ _ _ _ _ (by exact rfl) _ _ _ _ _ hR3 ?_; intro W7 hr3 hG7))
      have hM := VarC.boxed (c := m2) hh3 hE.bel hp3 hG6 hR3 hr3 hG7
      replace hE := hE.pass hp3 hG6 hG7
      replace hF := hF.pass hp3 hG6 hG7
      clear hh3 hb3 hp3 hq3 hR3 hG6 hr3 hG7 hk3
      refine (c4 _ ((hH.below hE.bel).more hE.bel.size)).mono ?_
      rintro e w4 ⟨A4, k4, rfl, hk4, hh4, hb4⟩
      replace hE := hE.call hb4
      replace hF := hF.call hb4
      replace hM := hM.call hb4
      dsimp only at hh4
      clear c1 c2 c3 c4
      go_wp2_with (first
        | (refine wpList_alloc_arr _ rfl 11 rfl _ rfl #[.bool false, .bool false, .slice none 0 0] zeroCv ?_; intro W8 p4 hp4 hq4 hR4 hG8)
        | (refine wpList_store_cv rfl rfl _ _ rfl p4 (by exact rfl) _ _ _ _ _ (by exact rfl) _ _ _ _ _ hR4 ?_; intro W9 hr4 hG9
           have hO := VarC.boxed (c := m2) hh4 hE.bel hp4 hG8 hR4 hr4 hG9
           have hE9 := hE.pass hp4 hG8 hG9
           have hF9 := hF.pass hp4 hG8 hG9
           have hM9 := hM.pass hp4 hG8 hG9
           clear hE hF hM hh4 hb4 hp4 hq4 hR4 hG8 hr4 hG9 hk4)
        | (refine wpList_load_cv (by rfl) _ rfl p1 (by exact rfl) _ _ _ _ _ hE9.row ?_)
        | (refine wpList_load_cv (by rfl) _ rfl p2 (by exact rfl) _ _ _ _ _ hF9.row ?_))
      refine (csps_same m1 A1 A2 k1 k2 _ _ hE9.has hF9.has (Nat.le_refl _) hl1).mono ?_
      rintro e w5 ⟨rfl, hb5⟩
      have hM5 := hM9.call hb5
      have hO5 := hO.call hb5
      clear hE9 hF9 hM9 hO hb5
      go_wp2_with (first
        | (refine wpList_load_cv (by rfl) _ rfl p3 (by exact rfl) _ _ _ _ _ hM5.row ?_)
        | (refine wpList_load_cv (by rfl) _ rfl p4 (by exact rfl) _ _ _ _ _ hO5.row ?_))
      refine (csps_same m2 A3 A4 k3 k4 _ _ hM5.has hO5.has (Nat.le_refl _) hl2).mono ?_
      rintro e w6 ⟨rfl, hb6⟩
      have hbel := hM5.bel.trans (hb6.mono hM5.bel.size)
      clear hM5 hO5 hb6
      go_wp2_with fail
      refine (cw _).mono ?_
      rintro e w7 ⟨rfl, hb7⟩
      go_wp2
      go_ret
      exact ⟨rfl, hbel.trans (hb7.mono hbel.size)⟩
  · have hd : decide ((4500 : Int) < (s.size : Int)) = true := decide_eq_true (by omega)
    clear hH
    go_enter Try.func3, Try.ntmps3
    go_wp2_with fail
    refine (cw _).mono ?_
    rintro e w1 ⟨rfl, hb⟩
    go_wp2
    go_ret
    exact ⟨rfl, hb⟩

end Go.Proofs.Ytgilpheclmmolaa
