/-
  What the statements of layer 21 call small.
-/
import Derived.Test.YtmfoegpdjajicaaFdM
import Derived.Test.YtmfoegpdjajicaaKeepS
namespace Go.Proofs.Ytmfoegpdjajicaa
open Go.RowKit

def smF (l : List Fv) : Bool := decide (l.length ≤ 110) && l.all fun x => decide (x.name.length ≤ 3000) && decide (x.value.length ≤ 3000)
theorem smF_sizes {l : List Fv} (h : smF l = true) : l.length ≤ 110 ∧ ∀ x ∈ l, x.name.length ≤ 3000 ∧ x.value.length ≤ 3000 := by
  unfold smF at h
  rw [Bool.and_eq_true, decide_eq_true_iff, List.all_eq_true] at h
  refine ⟨h.1, fun x hx => ?_⟩
  have := h.2 x hx
  simpa using this
theorem smF_at {l : List Fv} {k : Nat} (hk : k < l.length) (h : shortB 3000 [bs l[k].name, bs l[k].value] = false) : smF l = false := by
  unfold smF
  rw [Bool.and_eq_false_iff]
  right
  rw [List.all_eq_false]
  refine ⟨l[k], List.getElem_mem hk, ?_⟩
  intro e
  simp at e
  unfold shortB at h
  simp [bs_size] at h
  omega
theorem smF_step {l : List Fv} {k : Nat} (hk : k < l.length) (h0 : (l.take k).all (fun x => decide (x.name.length ≤ 3000) && decide (x.value.length ≤ 3000)) = true) (h : shortB 3000 [bs l[k].name, bs l[k].value] = true) :
    (l.take (k + 1)).all (fun x => decide (x.name.length ≤ 3000) && decide (x.value.length ≤ 3000)) = true := by
  rw [List.take_succ_eq_append_getElem hk, List.all_append, h0]
  unfold shortB at h
  simp [bs_size] at h
  simp
  omega

set_option maxRecDepth 20000 in
set_option maxHeartbeats 4000000 in
theorem small21_any (A : Option Addr) (c : Nat) (l : List Fv) (w : World) (hH : HasFd w w.heap.size A l.length l) (_hl : l.length ≤ maxLen) :
    Calls Try.prog 14 #[.slice A l.length c] w fun e w' => e = .returned (.bool (smF l)) ∧ Below w.heap.size w w' := by
  by_cases h110 : 110 < l.length
  · have hd : decide ((110 : Int) < (l.length : Int)) = true := decide_eq_true (by omega)
    have HF : Hid (smF l = false) := Lib.hid (by unfold smF; rw [decide_eq_false (by omega)]; rfl)
    clear hH
    go_enter Try.func14, Try.ntmps14
    go_wp2
    go_ret
    exact ⟨ret_bool HF.out.symm, Below.refl _ _⟩
  · have hd : decide ((110 : Int) < (l.length : Int)) = false := decide_eq_false (by omega)
    have HH := Lib.hid hH
    clear hH
    go_enter Try.func14, Try.ntmps14
    go_wp2
    go_loopw [3] (fun i wr => ∃ k : Nat, k ≤ l.length ∧ i = .int .i64 k ∧ Hid ((l.take k).all (fun x => decide (x.name.length ≤ 3000) && decide (x.value.length ≤ 3000)) = true) ∧ Below w.heap.size w wr) (fun i _ => l.length - (intOf i).toNat)
    case atStart => exact ⟨0, Nat.zero_le _, rfl, Lib.hid rfl, Below.refl _ _⟩
    case round =>
      obtain ⟨k, hk, rfl, HT, hb⟩ := hrel
      by_cases hlt : k < l.length
      · obtain ⟨b, off, rfl, _, d1, d2⟩ := (HH.out.below hb).at_ hlt
        have cs := fun W : World => short_any 3000 (some ⟨W.heap.size, 0, none⟩) 2 2 [bs l[k].name, bs l[k].value] (W.heap.size + 1) (W.alloc (.cells #[.string (bs l[k].name), .string (bs l[k].value)] 9)) (Has.two W _ _ _) (by omega)
        have hN := smF_at hlt
        have hS := smF_step hlt HT.out
        cases hq : shortB 3000 [bs l[k].name, bs l[k].value] with
        | true =>
          have HN := Lib.hid (hS hq)
          rw [hq] at cs
          clear hN hS hq
          generalize bs l[k].name = N at *
          generalize bs l[k].value = V at *
          go_wp2
          refine wp_region_any (by kernel_rfl) ?_
          change wpAny _ _ _ _ _ _ _ (World.drew _)
          have hbd := hb.drew
          replace d1 : wr.drew.cell? ⟨b, off + k * 2, none⟩ = some (.string N) := d1
          replace d2 : wr.drew.cell? ⟨b, off + k * 2 + 1, none⟩ = some (.string V) := d2
          clear hb
          generalize wr.drew = wd at *
          refine wpAny_take (i := 0) (v := .slice (some ⟨b, off, none⟩) l.length c) rfl (by kernel_rfl) (by kernel_rfl) (by kernel_rfl) (fun _ _ _ h => h) (Or.inl ⟨by rfl, by intro w; go_simp; try with_reducible rfl⟩) ?_
          refine wpAny_take (i := 1) (v := .int .i64 (k : Int)) rfl (by kernel_rfl) (by kernel_rfl) (by kernel_rfl) (fun _ _ _ h => h) (Or.inl ⟨by rfl, by intro w; go_simp; try with_reducible rfl⟩) ?_
          refine wpAny_take (i := 2) (v := .pointer (some ⟨b, off + k * 2, none⟩)) rfl (by kernel_rfl) (by kernel_rfl) (by kernel_rfl) (fun _ _ _ h => h) (Or.inl ⟨by rfl, by intro w; go_simp; try with_reducible rfl⟩) ?_
          refine wpAny_take (i := 3) (v := .pointer (some ⟨b, off + k * 2, none⟩)) rfl (by kernel_rfl) (by kernel_rfl) (by kernel_rfl) (fun _ _ _ h => h) (Or.inl ⟨by rfl, by intro w; go_simp; try with_reducible rfl⟩) ?_
          refine wpAny_take (i := 5) (v := .slice (some ⟨b, off, none⟩) l.length c) rfl (by kernel_rfl) (by kernel_rfl) (by kernel_rfl) (fun _ _ _ h => h) (Or.inl ⟨by rfl, by intro w; go_simp; try with_reducible rfl⟩) ?_
          refine wpAny_take (i := 6) (v := .int .i64 (k : Int)) rfl (by kernel_rfl) (by kernel_rfl) (by kernel_rfl) (fun _ _ _ h => h) (Or.inl ⟨by rfl, by intro w; go_simp; try with_reducible rfl⟩) ?_
          refine wpAny_take (i := 7) (v := .pointer (some ⟨b, off + k * 2, none⟩)) rfl (by kernel_rfl) (by kernel_rfl) (by kernel_rfl) (fun _ _ _ h => h) (Or.inl ⟨by rfl, by intro w; go_simp; try with_reducible rfl⟩) ?_
          refine wpAny_take (i := 8) (v := .pointer (some ⟨b, off + k * 2 + 1, none⟩)) rfl (by kernel_rfl) (by kernel_rfl) (by kernel_rfl) (fun _ _ _ h => h) (Or.inl ⟨by rfl, by intro w; go_simp; try with_reducible rfl⟩) ?_
          refine wpAny_ready (rs := [4, 9]) (by kernel_rfl) (by simp) (AllReady.cons rfl (fun K hK => ?_) (AllReady.cons rfl (fun K hK => ?_) AllReady.nil))
          · go_simp
            refine hK _ _ ?_
            clear hK K
            refine wpAny_ready (rs := [9]) (by kernel_rfl) (by simp) (AllReady.cons rfl (fun K hK => ?_) AllReady.nil)
            go_simp
            refine hK _ _ ?_
            clear hK K
            refine wpAny_ready (rs := [10]) (by kernel_rfl) (by simp) (AllReady.cons rfl (fun K hK => ?_) AllReady.nil)
            go_simp
            refine hK _ _ ?_
            clear hK K
            refine wpAny_ready (rs := [11]) (by kernel_rfl) (by simp) (AllReady.cons rfl (fun K hK => ?_) AllReady.nil)
            go_simp
            go_wp2_with fail
            refine (cs _).mono ?_
            rintro e w5 ⟨rfl, rfl⟩
            refine hK _ _ ?_
            clear hK K
            refine wpAny_take (i := 12) (v := .bool false) rfl (by kernel_rfl) (by kernel_rfl) (by kernel_rfl) (fun _ _ _ h => h) (Or.inl ⟨by rfl, by intro w; go_simp; try with_reducible rfl⟩) ?_
            refine wpAny_done (by kernel_rfl) ?_ _
            clear cs d1 d2
            go_wp2
            go_roundw
            case rel => exact ⟨k + 1, by omega, by go_num, HN, hbd.alloc hbd.size _⟩
            case measure => simp [intOf]; omega
          · go_simp
            refine hK _ _ ?_
            clear hK K
            refine wpAny_ready (rs := [4]) (by kernel_rfl) (by simp) (AllReady.cons rfl (fun K hK => ?_) AllReady.nil)
            go_simp
            refine hK _ _ ?_
            clear hK K
            refine wpAny_ready (rs := [10]) (by kernel_rfl) (by simp) (AllReady.cons rfl (fun K hK => ?_) AllReady.nil)
            go_simp
            refine hK _ _ ?_
            clear hK K
            refine wpAny_ready (rs := [11]) (by kernel_rfl) (by simp) (AllReady.cons rfl (fun K hK => ?_) AllReady.nil)
            go_simp
            go_wp2_with fail
            refine (cs _).mono ?_
            rintro e w5 ⟨rfl, rfl⟩
            refine hK _ _ ?_
            clear hK K
            refine wpAny_take (i := 12) (v := .bool false) rfl (by kernel_rfl) (by kernel_rfl) (by kernel_rfl) (fun _ _ _ h => h) (Or.inl ⟨by rfl, by intro w; go_simp; try with_reducible rfl⟩) ?_
            refine wpAny_done (by kernel_rfl) ?_ _
            clear cs d1 d2
            go_wp2
            go_roundw
            case rel => exact ⟨k + 1, by omega, by go_num, HN, hbd.alloc hbd.size _⟩
            case measure => simp [intOf]; omega
        | false =>
          have HN := Lib.hid (hN hq)
          rw [hq] at cs
          clear hN hS hq
          generalize bs l[k].name = N at *
          generalize bs l[k].value = V at *
          go_wp2
          refine wp_region_any (by kernel_rfl) ?_
          change wpAny _ _ _ _ _ _ _ (World.drew _)
          have hbd := hb.drew
          replace d1 : wr.drew.cell? ⟨b, off + k * 2, none⟩ = some (.string N) := d1
          replace d2 : wr.drew.cell? ⟨b, off + k * 2 + 1, none⟩ = some (.string V) := d2
          clear hb
          generalize wr.drew = wd at *
          refine wpAny_take (i := 0) (v := .slice (some ⟨b, off, none⟩) l.length c) rfl (by kernel_rfl) (by kernel_rfl) (by kernel_rfl) (fun _ _ _ h => h) (Or.inl ⟨by rfl, by intro w; go_simp; try with_reducible rfl⟩) ?_
          refine wpAny_take (i := 1) (v := .int .i64 (k : Int)) rfl (by kernel_rfl) (by kernel_rfl) (by kernel_rfl) (fun _ _ _ h => h) (Or.inl ⟨by rfl, by intro w; go_simp; try with_reducible rfl⟩) ?_
          refine wpAny_take (i := 2) (v := .pointer (some ⟨b, off + k * 2, none⟩)) rfl (by kernel_rfl) (by kernel_rfl) (by kernel_rfl) (fun _ _ _ h => h) (Or.inl ⟨by rfl, by intro w; go_simp; try with_reducible rfl⟩) ?_
          refine wpAny_take (i := 3) (v := .pointer (some ⟨b, off + k * 2, none⟩)) rfl (by kernel_rfl) (by kernel_rfl) (by kernel_rfl) (fun _ _ _ h => h) (Or.inl ⟨by rfl, by intro w; go_simp; try with_reducible rfl⟩) ?_
          refine wpAny_take (i := 5) (v := .slice (some ⟨b, off, none⟩) l.length c) rfl (by kernel_rfl) (by kernel_rfl) (by kernel_rfl) (fun _ _ _ h => h) (Or.inl ⟨by rfl, by intro w; go_simp; try with_reducible rfl⟩) ?_
          refine wpAny_take (i := 6) (v := .int .i64 (k : Int)) rfl (by kernel_rfl) (by kernel_rfl) (by kernel_rfl) (fun _ _ _ h => h) (Or.inl ⟨by rfl, by intro w; go_simp; try with_reducible rfl⟩) ?_
          refine wpAny_take (i := 7) (v := .pointer (some ⟨b, off + k * 2, none⟩)) rfl (by kernel_rfl) (by kernel_rfl) (by kernel_rfl) (fun _ _ _ h => h) (Or.inl ⟨by rfl, by intro w; go_simp; try with_reducible rfl⟩) ?_
          refine wpAny_take (i := 8) (v := .pointer (some ⟨b, off + k * 2 + 1, none⟩)) rfl (by kernel_rfl) (by kernel_rfl) (by kernel_rfl) (fun _ _ _ h => h) (Or.inl ⟨by rfl, by intro w; go_simp; try with_reducible rfl⟩) ?_
          refine wpAny_ready (rs := [4, 9]) (by kernel_rfl) (by simp) (AllReady.cons rfl (fun K hK => ?_) (AllReady.cons rfl (fun K hK => ?_) AllReady.nil))
          · go_simp
            refine hK _ _ ?_
            clear hK K
            refine wpAny_ready (rs := [9]) (by kernel_rfl) (by simp) (AllReady.cons rfl (fun K hK => ?_) AllReady.nil)
            go_simp
            refine hK _ _ ?_
            clear hK K
            refine wpAny_ready (rs := [10]) (by kernel_rfl) (by simp) (AllReady.cons rfl (fun K hK => ?_) AllReady.nil)
            go_simp
            refine hK _ _ ?_
            clear hK K
            refine wpAny_ready (rs := [11]) (by kernel_rfl) (by simp) (AllReady.cons rfl (fun K hK => ?_) AllReady.nil)
            go_simp
            go_wp2_with fail
            refine (cs _).mono ?_
            rintro e w5 ⟨rfl, rfl⟩
            refine hK _ _ ?_
            clear hK K
            refine wpAny_take (i := 12) (v := .bool true) rfl (by kernel_rfl) (by kernel_rfl) (by kernel_rfl) (fun _ _ _ h => h) (Or.inl ⟨by rfl, by intro w; go_simp; try with_reducible rfl⟩) ?_
            refine wpAny_done (by kernel_rfl) ?_ _
            clear cs d1 d2
            go_wp2
            go_ret
            exact ⟨ret_bool HN.out.symm, hbd.alloc hbd.size _⟩
          · go_simp
            refine hK _ _ ?_
            clear hK K
            refine wpAny_ready (rs := [4]) (by kernel_rfl) (by simp) (AllReady.cons rfl (fun K hK => ?_) AllReady.nil)
            go_simp
            refine hK _ _ ?_
            clear hK K
            refine wpAny_ready (rs := [10]) (by kernel_rfl) (by simp) (AllReady.cons rfl (fun K hK => ?_) AllReady.nil)
            go_simp
            refine hK _ _ ?_
            clear hK K
            refine wpAny_ready (rs := [11]) (by kernel_rfl) (by simp) (AllReady.cons rfl (fun K hK => ?_) AllReady.nil)
            go_simp
            go_wp2_with fail
            refine (cs _).mono ?_
            rintro e w5 ⟨rfl, rfl⟩
            refine hK _ _ ?_
            clear hK K
            refine wpAny_take (i := 12) (v := .bool true) rfl (by kernel_rfl) (by kernel_rfl) (by kernel_rfl) (fun _ _ _ h => h) (Or.inl ⟨by rfl, by intro w; go_simp; try with_reducible rfl⟩) ?_
            refine wpAny_done (by kernel_rfl) ?_ _
            clear cs d1 d2
            go_wp2
            go_ret
            exact ⟨ret_bool HN.out.symm, hbd.alloc hbd.size _⟩
      · obtain rfl : k = l.length := by omega
        have HF : Hid (smF l = true) := Lib.hid (by
          have := HT.out
          rw [List.take_length] at this
          unfold smF
          rw [this, decide_eq_true (by omega)]
          rfl)
        go_wp2
        go_ret
        exact ⟨ret_bool HF.out.symm, hb⟩

end Go.Proofs.Ytmfoegpdjajicaa
