/-
  The reference of layer 18: Parse.
-/
import Derived.Test.YtpopkeidpohdiaaDiC
import Derived.Test.YtpopkeidpohdiaaDiD
namespace Go.Proofs.Ytpopkeidpohdiaa
open Go.RowKit

/-- The state of the reference's loop. -/
structure RSt (w W : World) (v : Value) (l : List Dv) : Prop where
  own : W.ownsRow w.heap.size 32 3 v l.length (dvv l)
  bel : Below w.heap.size w W
theorem RSt.below {w W W' : World} {v : Value} {l : List Dv} (h : RSt w W v l) (hb : Below W.heap.size W W') : RSt w W' v l := ⟨own_below h.own hb, h.bel.trans (hb.mono h.bel.size)⟩
theorem RSt.alloc {w W W' : World} {v : Value} {l : List Dv} (h : RSt w W v l) (hg : W.grownBy W' none) : RSt w W' v l := ⟨h.own.kept hg (by cases hv : v.ownBlock <;> simp), below_row0 h.bel hg (Nat.le_refl _)⟩
theorem RSt.store {w W W' : World} {v : Value} {l : List Dv} {g : Nat} (h : RSt w W v l) (hg : W.grownBy W' (some g)) (hv : v.ownBlock ≠ some g) (hle : w.heap.size ≤ g) : RSt w W' v l := ⟨h.own.kept hg (.inr hv), below_row h.bel hg (Nat.le_refl _) hle⟩
theorem RSt.lt {w W : World} {v : Value} {l : List Dv} (h : RSt w W v l) {g : Nat} (hg : W.heap.size ≤ g) : v.ownBlock ≠ some g ∧ w.heap.size ≤ g :=
  ⟨fun e => by have := (h.own.lt g e).2; omega, Nat.le_trans h.bel.size hg⟩
theorem RSt.form {w W : World} {v : Value} {l : List Dv} (h : RSt w W v l) : ∃ A c, v = .slice A l.length c := by
  obtain ⟨A, c, e, _⟩ := HasDv.of_own h.own
  exact ⟨A, c, e⟩

set_option maxRecDepth 20000 in
set_option maxHeartbeats 8000000 in
theorem refDirParse_any (s : ByteArray) (hs : s.size ≤ 1000000) (w : World) :
    Calls Try.prog 13 #[.string s] w (DvsPost (dirL (ls s)).1 (dirL (ls s)).2 w) := by
  by_cases hbig : 4096 < s.size
  · have HX : Hid (dirL (ls s) = ([], 3)) := by
      show _ = _
      unfold dirL
      rw [ls_length, if_pos hbig]
    have hd : decide ((4096 : Int) < (s.size : Int)) = true := decide_eq_true (by omega)
    clear hbig
    go_enter Try.func13, Try.ntmps13
    go_wp2
    go_ret2
    exact dvs_nil HX.out (Below.refl _ _)
  · have HX : Hid (dirL (ls s) = dirR (dl s 0) []) := by
      show _ = _
      unfold dirL dirR dl
      rw [ls_length, if_neg hbig, List.drop_zero, ls_length]
    have hd : decide ((4096 : Int) < (s.size : Int)) = false := decide_eq_false (by omega)
    obtain ⟨R, hR⟩ : ∃ R, R = dirL (ls s) := ⟨_, rfl⟩
    rw [← hR] at HX ⊢
    clear hbig hR
    go_enter Try.func13, Try.ntmps13
    go_wp2
    go_loopg [4, 5, 6, 7, 8] (s.size + 1) (fun g v i x6 x7 x8 wr => ∃ (k : Nat) (l : List Dv), k ≤ s.size ∧ i = .int .i64 k ∧ g = s.size + 1 - k ∧ l.length ≤ 32 ∧ Hid (RSt w wr v l) ∧ Hid (R = dirR (dl s k) l))
    case atStart => exact ⟨0, [], Nat.zero_le _, rfl, rfl, by simp, Lib.hid ⟨World.ownsRow_nil _ _ _ _, Below.refl _ _⟩, HX⟩
    case round =>
      obtain ⟨k, l, hk, rfl, hg, hl, HS, HR⟩ := hrel
      have HG := Lib.hid hg
      have cb := fun W => refSkip_any s k hs hk W
      have hj := skN_le s k hk
      have hkj := skN_ge s k
      have hd0 := dl_sk s k
      obtain ⟨j, hje⟩ : ∃ j, j = skN s k := ⟨_, rfl⟩
      rw [← hje] at cb hj hkj hd0
      have hjb : (j : Int) ≤ 1000000 := by omega
      clear hg hje
      by_cases he : j = s.size
      · have n1 : s.size ≤ j := by omega
        have n2 : ¬ j < s.size := by omega
        have t1 : decide ((j : Int) < (s.size : Int)) = false := decide_eq_false (by omega)
        have t2 : decide ((s.size : Int) ≤ (j : Int)) = true := decide_eq_true (by omega)
        have HE : Hid (R = (l, 0)) := by
          show _ = _
          rw [HR.out, dirR_end l (by rw [← hd0, dl_end s j (by omega)])]
        clear he hd0
        go_wp2_with fail
        refine (cb _).mono ?_
        rintro e w' ⟨rfl, rfl⟩
        go_wp2
        go_ret2
        exact dvs_own HE.out HS.out.own HS.out.bel
      · have hlt : j < s.size := by omega
        have t1 : decide ((j : Int) < (s.size : Int)) = true := decide_eq_true (by omega)
        have t2 : decide ((s.size : Int) ≤ (j : Int)) = false := decide_eq_false (by omega)
        rw [dl_cons s j hlt] at hd0
        clear he
        by_cases h59 : s[j] = 59
        · have t3 : ((s[j].toNat : Int) == 59) = true := by rw [h59]; rfl
          have t4 : ((s[j].toNat : Int) != 59) = false := by rw [bne, t3]; rfl
          have HN : Hid (R = dirR (dl s (j + 1)) l) := by
            show _ = _
            rw [HR.out, dirR_semi l (by rw [← hd0, h59])]
          clear hd0 h59
          go_wp2_with fail
          refine (cb _).mono ?_
          rintro e w' ⟨rfl, rfl⟩
          go_wp2
          go_roundg (s.size - j)
          case rel => exact ⟨j + 1, l, hlt, by go_num, by omega, hl, HS, HN⟩
          case measure => have := HG.out; omega
        · have t3 : ((s[j].toNat : Int) == 59) = false := byte_u8 h59
          have t4 : ((s[j].toNat : Int) != 59) = true := by rw [bne, t3]; rfl
          obtain ⟨A, c, rfl⟩ := HS.out.form
          by_cases h32 : l.length = 32
          · have e32 : ((l.length : Int) == 32) = true := by rw [h32]; rfl
            have HE : Hid (R = ([], 3)) := by
              show _ = _
              rw [HR.out, dirR_full l hd0.symm h59 h32]
            clear hd0 h59 h32
            go_wp2_with fail
            refine (cb _).mono ?_
            rintro e w' ⟨rfl, rfl⟩
            go_wp2
            go_ret2
            exact dvs_nil HE.out HS.out.bel
          · have e32 : ((l.length : Int) == 32) = false := by simp; omega
            have cm := fun W => refElement_any s j hs hj W
            have hl31 : l.length ≤ 31 := by omega
            unfold RElR at cm
            cases hel : elemL (dl s j) with
            | none =>
              have HE : Hid (R = ([], 4)) := by
                show _ = _
                rw [HR.out, dirR_bad l hd0.symm h59 h32 (by rw [← dl_cons s j hlt]; exact elemR_none hel)]
              rw [hel] at cm
              clear hd0 h59 h32 hel
              go_wp2_with fail
              refine (cb _).mono ?_
              rintro e w' ⟨rfl, rfl⟩
              go_wp2_with fail
              refine (cm _).mono ?_
              rintro e w5 ⟨hb5, nn, vv, bb, ii, rfl⟩
              have HS := Lib.hid (HS.out.below hb5)
              go_wp2_with (first
                | (refine wpList_alloc_arr _ rfl 6 rfl _ rfl dz zeroDv ?_
                   intro W6 g6 hg6 hl6 hR6 hG6
                   have hlt6 := HS.out.lt hg6
                   have HS := Lib.hid (HS.out.alloc hG6))
                | (refine wpList_store_dv rfl rfl _ _ rfl g6 (by exact rfl) nn vv bb (by exact rfl) _ _ _ hR6 ?_
                   intro w7 hr6 hG7
                   have HS := Lib.hid (HS.out.store hG7 hlt6.1 hlt6.2)))
              go_ret2
              exact dvs_nil HE.out HS.out.bel
            | some p =>
              obtain ⟨d, t⟩ := p
              rw [hel] at cm
              have PE := fun X => dirR_elem (t := X) (d := d) l hd0.symm h59 h32
              have PB := dirR_bad l hd0.symm h59 h32
              rw [← dl_cons s j hlt] at PB
              have PE := fun X (h : elemR (dl s j) = some (d, X)) => PE X (by rw [← dl_cons s j hlt]; exact h)
              rw [elemR_eq hel] at PB
              have PE := fun X (h : endR d t = some (d, X)) => PE X (by rw [elemR_eq hel]; exact h)
              have PE := Lib.hid PE
              have PB := Lib.hid PB
              clear hd0 h59 h32 hel
              go_wp2_with fail
              refine (cb _).mono ?_
              rintro e w' ⟨rfl, rfl⟩
              go_wp2_with fail
              refine (cm _).mono ?_
              rintro e w5 ⟨hb5, n, hn1, hn2, rfl, rfl⟩
              have HS := Lib.hid (HS.out.below hb5)
              have cb2 := fun W => refSkip_any s n hs hn2 W
              have hm := skN_le s n hn2
              have hnm := skN_ge s n
              obtain ⟨m, hme⟩ : ∃ m, m = skN s n := ⟨_, rfl⟩
              rw [← hme] at cb2 hm hnm
              have HM := Lib.hid hme.symm
              have hmb : (m : Int) ≤ 1000000 := by omega
              clear hme hb5 t1 t2
              go_wp2_with (first
                | (refine wpList_alloc_arr _ rfl 6 rfl _ rfl dz zeroDv ?_
                   intro W6 g6 hg6 hl6 hR6 hG6
                   have hlt6 := HS.out.lt hg6
                   have HS := Lib.hid (HS.out.alloc hG6))
                | (refine wpList_store_dv rfl rfl _ _ rfl g6 (by exact rfl) (bs d.name) (bs d.value) d.has (by exact rfl) _ _ _ hR6 ?_
                   intro w7 hr6 hG7
                   have HS := Lib.hid (HS.out.store hG7 hlt6.1 hlt6.2)))
              refine (cb2 _).mono ?_
              rintro e w' ⟨rfl, rfl⟩
              by_cases he : m = s.size
              · have n1 : s.size ≤ m := by omega
                have n2 : ¬ m < s.size := by omega
                have t1 : decide ((m : Int) < (s.size : Int)) = false := decide_eq_false (by omega)
                have t2 : decide ((s.size : Int) ≤ (m : Int)) = true := decide_eq_true (by omega)
                have HE : Hid (R = (l ++ [d], 0)) := by
                  show _ = _
                  rw [HR.out, PE.out _ (endR_end s d n m HM.out he), dirR_end _ (by rw [dl_end s m (by omega)]; rfl)]
                clear he
                go_wp2_with (first
                  | refine wpList_load_dv (by rfl) _ rfl g6 (by exact rfl) _ _ _ hr6 ?_
                  | (at_builtin
                     refine wpList_app_dv w7 rfl _ _ (by exact rfl) w.heap.size d _ l.length l (by exact rfl) HS.out.own (by exact rfl) (by omega) HS.out.bel (Nat.le_refl _) ?_
                     intro v2 w2 hown2 hb2 hgr))
                go_ret2
                exact dvs_own HE.out hown2 hb2
              · have hlt9 : m < s.size := by omega
                have t1 : decide ((m : Int) < (s.size : Int)) = true := decide_eq_true (by omega)
                have t2 : decide ((s.size : Int) ≤ (m : Int)) = false := decide_eq_false (by omega)
                by_cases hc9 : s[m] = 59
                · have q3 : ((s[m].toNat : Int) == 59) = true := by rw [hc9]; rfl
                  have q4 : ((s[m].toNat : Int) != 59) = false := by rw [bne, q3]; rfl
                  have HN : Hid (R = dirR (dl s (m + 1)) (l ++ [d])) := by
                    show _ = _
                    rw [HR.out, PE.out _ (endR_semi s d n m HM.out hlt9 hc9)]
                  clear he hc9
                  go_wp2_with (first
                    | refine wpList_load_dv (by rfl) _ rfl g6 (by exact rfl) _ _ _ hr6 ?_
                    | (at_builtin
                       refine wpList_app_dv w7 rfl _ _ (by exact rfl) w.heap.size d _ l.length l (by exact rfl) HS.out.own (by exact rfl) (by omega) HS.out.bel (Nat.le_refl _) ?_
                       intro v2 w2 hown2 hb2 hgr
                       have hl1 : (l ++ [d]).length = l.length + 1 := by simp
                       have HS := Lib.hid (RSt.mk (l := l ++ [d]) (by rw [hl1]; exact hown2) hb2)))
                  go_roundg (s.size - m)
                  case rel => exact ⟨m + 1, l ++ [d], hlt9, by go_num, by omega, by simp; omega, HS, HN⟩
                  case measure => have := HG.out; omega
                · have q3 : ((s[m].toNat : Int) == 59) = false := byte_u8 hc9
                  have q4 : ((s[m].toNat : Int) != 59) = true := by rw [bne, q3]; rfl
                  have HE : Hid (R = ([], 4)) := by
                    show _ = _
                    rw [HR.out, PB.out (endR_no s d n m HM.out hlt9 hc9)]
                  clear he hc9
                  go_wp2
                  go_ret2
                  exact dvs_nil HE.out HS.out.bel

end Go.Proofs.Ytpopkeidpohdiaa
