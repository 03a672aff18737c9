/-
  Contract of FromInt of the reference of layer 1.
-/
import Derived.Test.YtpopkeidpohdiaaDoorTyB
import Derived.Test.YtpopkeidpohdiaaDoorSecP
import Derived.Test.YtpopkeidpohdiaaDoorStill
import Derived.Deep.RegionWith
namespace Go.Proofs.YtpopkeidpohdiaaDoor
open Go.RowKit

theorem dec_length_le : ∀ (k u : Nat), 0 < k → u < 10 ^ k → (Lib.decDigits u).length ≤ k
  | 0, _, h, _ => by omega
  | k + 1, u, _, hu => by
    by_cases h : u < 10
    · rw [Lib.decDigits_one h]; simp
    · rw [dec_step u h, List.length_append]
      rcases Nat.eq_zero_or_pos k with h0 | h0
      · subst h0; simp at hu; omega
      · have := dec_length_le k (u / 10) h0 (by rw [Nat.pow_succ] at hu; omega)
        simp only [List.length_cons, List.length_nil]
        omega
theorem dec_size15 (u : Nat) (h : u ≤ 9223372036854775807) : (bs (Lib.decDigits u)).size ≤ 19 := by
  rw [bs_size]
  exact dec_length_le 19 u (by omega) (by omega)

/-- string(b) of one byte. -/
theorem str_one (w : World) (b : Nat) (y : Int) (c : UInt8) (hy : y = (c.toNat : Int)) (h : w.cell? ⟨b, 0, none⟩ = some (.int .u8 y)) :
    (convert 44 9 (.slice (some ⟨b, 0, none⟩) 1 1)).run Tryd.prog w = .ok (.string (bs [c])) w := by
  have e := run_convert_bytes_back (P := Tryd.prog) w 44 9 5 ⟨b, 0, none⟩ 1 [c] tyBs tyU8 tyStr (fun j hj => by
    match j, hj with
    | 0, _ => rw [show (⟨b, 0, none⟩ : Addr).add 0 = ⟨b, 0, none⟩ from rfl, h, hy]; rfl)
  exact e
theorem str_new (w : World) (y : Int) (c : UInt8) (hy : y = (c.toNat : Int)) :
    (convert 44 9 (.slice (some ⟨w.heap.size, 0, none⟩) 1 1)).run Tryd.prog (w.alloc (.cells #[.int .u8 y] 5)) = .ok (.string (bs [c])) (w.alloc (.cells #[.int .u8 y] 5)) :=
  str_one _ _ y c hy (by rw [World.cell?_alloc_at _ _ _ _ rfl]; rfl)

theorem dec_big (z : Int) (h : ¬ z < 10) : Lib.decDigits z.toNat = Lib.decDigits (z / 10).toNat ++ [UInt8.ofNat (48 + (z % 10).toNat)] := by
  rw [dec_step _ (by omega), show z.toNat / 10 = (z / 10).toNat by omega, show z.toNat % 10 = (z % 10).toNat by omega]

attribute [local irreducible] wpAny in
set_option maxHeartbeats 2000000 in
theorem fromInt_aux (N : Nat) : ∀ (z : Int), 0 ≤ z → z ≤ 9223372036854775807 → z.toNat ≤ N → ∀ w : World,
    Calls Tryd.prog 9 #[.int .i64 z] w fun e w' => e = .returned (.string (bs (Lib.decDigits z.toNat))) ∧ Below w.heap.size w w' := by
  induction N with
  | zero =>
    intro z h0 h1 hN w
    obtain rfl : z = 0 := by omega
    have hcv := str_new w 48 48 rfl
    have HE : Hid (bs (Lib.decDigits (Int.toNat 0)) = bs [48]) := by refine Lib.hid ?_; rw [show Int.toNat 0 = 0 from rfl, Lib.decDigits_one (by omega)]; rfl
    rw [HE.out]
    go_enter Tryd.func9, Tryd.ntmps9
    go_wp2
    go_ret
    exact ⟨rfl, (Below.refl _ _).alloc (Nat.le_refl _) _⟩
  | succ N ih =>
    intro z h0 h1 hN w
    by_cases hz : z < 10
    · obtain ⟨c, hc⟩ : ∃ c, UInt8.ofNat (48 + z.toNat) = c := ⟨_, rfl⟩
      have hcv := str_new w (48 + z) c (by rw [← hc, digit_of _ (by omega)]; omega)
      have HE : Hid (bs (Lib.decDigits z.toNat) = bs [c]) := by refine Lib.hid ?_; rw [Lib.decDigits_one (by omega), hc]
      rw [HE.out]
      clear ih hN hc
      go_enter Tryd.func9, Tryd.ntmps9
      go_wp2
      go_ret
      exact ⟨rfl, (Below.refl _ _).alloc (Nat.le_refl _) _⟩
    · have HE := Lib.hid (congrArg bs (dec_big z hz))
      obtain ⟨q, hq⟩ : ∃ q, z / 10 = q := ⟨_, rfl⟩
      obtain ⟨r, hr⟩ : ∃ r, z % 10 = r := ⟨_, rfl⟩
      have hq0 : 0 ≤ q := by omega
      have hq1 : q ≤ 9223372036854775807 := by omega
      have hqN : q.toNat ≤ N := by omega
      have hr0 : 0 ≤ r := by omega
      have hr1 : r < 10 := by omega
      rw [hq, hr] at HE
      obtain ⟨c, hc⟩ : ∃ c, UInt8.ofNat (48 + r.toNat) = c := ⟨_, rfl⟩
      have hcr : 48 + r = (c.toNat : Int) := by rw [← hc, digit_of _ (by omega)]; omega
      rw [hc] at HE
      obtain ⟨D, hD⟩ : ∃ D, bs (Lib.decDigits q.toNat) = D := ⟨_, rfl⟩
      have HA : Hid (bs (Lib.decDigits z.toNat) = D ++ bs [c]) := by
        refine Lib.hid ?_
        rw [HE.out, ← hD]
        apply ls_inj
        rw [ls_append, ls_bs, ls_bs, ls_bs]
      rw [HA.out]
      have hsz : ¬ (9223372036854775807 < D.size + (bs [c]).size) := by
        have := dec_size15 q.toNat (by omega)
        rw [hD] at this
        rw [bs_size]
        simp only [List.length_cons, List.length_nil]
        omega
      have ihq := ih q hq0 hq1 hqN
      rw [hD] at ihq
      have hstr := fun W => str_new W (48 + r) c hcr
      have hone := fun W b => str_one W b (48 + r) c hcr
      have hcell : ∀ W : World, (W.alloc (.cells #[.int .u8 (48 + r)] 5)).cell? ⟨W.heap.size, 0, none⟩ = some (.int .u8 (48 + r)) := fun W => by rw [World.cell?_alloc_at _ _ _ _ rfl]; rfl
      have hsd := hstr w.drew
      have HZ := Lib.hid hD
      clear ih hN hD HE HA hc hcr
      go_enter Tryd.func9, Tryd.ntmps9
      go_wp2
      refine wp_region_any (by kernel_rfl) ?_
      change wpAny _ _ _ _ _ _ _ (World.drew _)
      refine any_take (i := 0) (v := ?_) rfl (by kernel_rfl) (by kernel_rfl) (by kernel_rfl) (fun _ _ _ h => h) (by exact rfl) (by intro w; go_simp; try with_reducible rfl) (fun K hK => ?_); go_simp; refine hK _ _ ?_; clear hK K
      refine any_take (i := 1) (v := ?_) rfl (by kernel_rfl) (by kernel_rfl) (by kernel_rfl) (fun _ _ _ h => h) (by exact rfl) (by intro w; go_simp; try with_reducible rfl) (fun K hK => ?_); go_simp; refine hK _ _ ?_; clear hK K
      refine any_take (i := 3) (v := ?_) rfl (by kernel_rfl) (by kernel_rfl) (by kernel_rfl) (fun _ _ _ h => h) (by exact rfl) (by intro w; go_simp; try with_reducible rfl) (fun K hK => ?_); go_simp; refine hK _ _ ?_; clear hK K
      refine any_take (i := 4) (v := ?_) rfl (by kernel_rfl) (by kernel_rfl) (by kernel_rfl) (fun _ _ _ h => h) (by exact rfl) (by intro w; go_simp; try with_reducible rfl) (fun K hK => ?_); go_simp; refine hK _ _ ?_; clear hK K
      refine any_take (i := 5) (v := ?_) rfl (by kernel_rfl) (by kernel_rfl) (by kernel_rfl) (fun _ _ _ h => h) (by exact rfl) (by intro w; go_simp; try with_reducible rfl) (fun K hK => ?_); go_simp; refine hK _ _ ?_; clear hK K
      refine any_take (i := 6) (v := ?_) rfl (by kernel_rfl) (by kernel_rfl) (by kernel_rfl) (fun _ _ _ h => h) (by exact rfl) (by intro w; go_simp; try with_reducible rfl) (fun K hK => ?_); go_simp; refine hK _ _ ?_; clear hK K
      have e1 : IntKind.i64.wrap (z.tdiv 10) = q := by rw [Int.tdiv_eq_ediv_of_nonneg h0, hq, IntKind.wrap_i64]; omega
      have e2 : z.tmod 10 = r := by rw [Int.tmod_eq_emod_of_nonneg h0, hr]
      have e3 : IntKind.i64.wrap (48 + r) = 48 + r := by rw [IntKind.wrap_i64]; omega
      have e4 : IntKind.u8.wrap (48 + r) = 48 + r := by rw [IntKind.wrap_u8]; omega
      rw [e1, e2, e3, e4]
      clear hq hr e1 e2 e3 e4
      refine wpAny_ready (rs := [2, 7]) (by kernel_rfl) (by simp) ?_
      refine AllReady.cons rfl (fun K hK => ?_) (AllReady.cons rfl (fun K hK => ?_) AllReady.nil)
      · go_simp
        refine (ihq _).mono ?_
        rintro e w1 ⟨rfl, hb⟩
        have hs1 := hstr w1
        refine hK _ _ ?_
        clear hK K
        refine wpAny_ready (rs := [7]) (by kernel_rfl) (by simp) ?_
        refine AllReady.cons rfl (fun K hK => ?_) AllReady.nil
        go_simp
        refine hK _ _ ?_
        clear hK K
        refine wpAny_ready (rs := [8]) (by kernel_rfl) (by simp) ?_
        refine AllReady.cons rfl (fun K hK => ?_) AllReady.nil
        go_simp
        refine hK _ _ ?_
        clear hK K
        refine any_take (i := 9) (v := ?_) rfl (by kernel_rfl) (by kernel_rfl) (by kernel_rfl) (fun _ _ _ h => h) (by exact rfl) (by intro w; go_simp; try with_reducible rfl) (fun K hK => ?_); go_simp; refine hK _ _ ?_; clear hK K
        refine wpAny_ready (rs := [10]) (by kernel_rfl) (by simp) ?_
        refine AllReady.cons rfl (fun K hK => ?_) AllReady.nil
        go_simp
        refine hK _ _ ?_
        clear hK K
        refine wpAny_done (by kernel_rfl) ?_ _
        go_wp2
        go_ret
        exact ⟨rfl, (((Below.refl w.heap.size w).drew.trans (hb.mono (Nat.le_refl _))).alloc hb.size _)⟩
      · go_simp
        refine hK _ _ ?_
        clear hK K
        refine wpAny_ready (rs := [2, 8]) (by kernel_rfl) (by simp) ?_
        refine AllReady.cons rfl (fun K hK => ?_) (AllReady.cons rfl (fun K hK => ?_) AllReady.nil)
        · go_simp
          refine (ihq _).mono ?_
          rintro e w1 ⟨rfl, hb⟩
          have hs1 := hone w1 w.heap.size (by exact (hb.cell (by simp)).trans (hcell w.drew))
          refine hK _ _ ?_
          clear hK K
          refine wpAny_ready (rs := [8]) (by kernel_rfl) (by simp) ?_
          refine AllReady.cons rfl (fun K hK => ?_) AllReady.nil
          go_simp
          refine hK _ _ ?_
          clear hK K
          refine any_take (i := 9) (v := ?_) rfl (by kernel_rfl) (by kernel_rfl) (by kernel_rfl) (fun _ _ _ h => h) (by exact rfl) (by intro w; go_simp; try with_reducible rfl) (fun K hK => ?_); go_simp; refine hK _ _ ?_; clear hK K
          refine wpAny_ready (rs := [10]) (by kernel_rfl) (by simp) ?_
          refine AllReady.cons rfl (fun K hK => ?_) AllReady.nil
          go_simp
          refine hK _ _ ?_
          clear hK K
          refine wpAny_done (by kernel_rfl) ?_ _
          go_wp2
          go_ret
          exact ⟨rfl, (((Below.refl w.heap.size w).drew.alloc (Nat.le_refl _) _).trans (hb.mono (by simp)))⟩
        · go_simp
          refine hK _ _ ?_
          clear hK K
          refine wpAny_ready (rs := [2]) (by kernel_rfl) (by simp) ?_
          refine AllReady.cons rfl (fun K hK => ?_) AllReady.nil
          go_simp
          refine (ihq _).mono ?_
          rintro e w1 ⟨rfl, hb⟩
          refine hK _ _ ?_
          clear hK K
          refine any_take (i := 9) (v := ?_) rfl (by kernel_rfl) (by kernel_rfl) (by kernel_rfl) (fun _ _ _ h => h) (by exact rfl) (by intro w; go_simp; try with_reducible rfl) (fun K hK => ?_); go_simp; refine hK _ _ ?_; clear hK K
          refine wpAny_ready (rs := [10]) (by kernel_rfl) (by simp) ?_
          refine AllReady.cons rfl (fun K hK => ?_) AllReady.nil
          go_simp
          refine hK _ _ ?_
          clear hK K
          refine wpAny_done (by kernel_rfl) ?_ _
          go_wp2
          go_ret
          exact ⟨rfl, (((Below.refl w.heap.size w).drew.alloc (Nat.le_refl _) _).trans (hb.mono (by simp)))⟩

theorem refFromInt_any (z : Int) (h0 : 0 ≤ z) (h1 : z ≤ 9223372036854775807) (w : World) :
    Calls Tryd.prog 9 #[.int .i64 z] w fun e w' => e = .returned (.string (bs (Lib.decDigits z.toNat))) ∧ Below w.heap.size w w' := fromInt_aux z.toNat z h0 h1 (Nat.le_refl _) w

end Go.Proofs.YtpopkeidpohdiaaDoor
