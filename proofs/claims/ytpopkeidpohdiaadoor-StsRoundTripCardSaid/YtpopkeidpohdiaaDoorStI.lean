/-
  Package sts: index (the map from names).
-/
import Derived.Test.YtpopkeidpohdiaaDoorStM
import Derived.Test.YtpopkeidpohdiaaDoorDiFp
namespace Go.Proofs.YtpopkeidpohdiaaDoor
open Go.RowKit Go.MapKept

theorem make_hint (w : World) (n : Int) : (Instr.makeMap 35 (some (.int .i64 n))).run Tryd.prog w = .ok (.map (some w.heap.size)) (w.alloc (.map #[] 0)) := by
  simp [Instr.makeMap, run_underlying tyMapDv, asInt, asIntOf, Result.andThen]
/-- Where the loop stands. -/
structure IdxSt (w W : World) (k : Nat) (D : DataW Value) (l : List Dv) : Prop where
  map : MapDv W w.heap.size k D (l.take k)
  bel : Below w.heap.size w W
theorem IdxSt.start (w : World) (l : List Dv) : IdxSt w (w.alloc (.map #[] 0)) 0 (.map []) l :=
  ⟨MapDv.made w, (Below.refl _ _).alloc (Nat.le_refl _) _⟩
theorem IdxSt.grow0 {w W W' : World} {k : Nat} {D : DataW Value} {l : List Dv} (h : IdxSt w W k D l) (hg : W.grownBy W' none) : IdxSt w W' k D l :=
  ⟨h.map.kept hg (by simp), below_row0 h.bel hg (Nat.le_refl _)⟩
theorem IdxSt.grow {w W W' : World} {k g : Nat} {D : DataW Value} {l : List Dv} (h : IdxSt w W k D l) (hg : W.grownBy W' (some g)) (hn : w.heap.size < g) : IdxSt w W' k D l :=
  ⟨h.map.kept hg (fun e => by injection e with e; omega), below_row h.bel hg (Nat.le_refl _) (by omega)⟩
theorem IdxSt.next {w W W' : World} {k : Nat} {D D' : DataW Value} {l m : List Dv} (h : IdxSt w W k D l) (hM : MapDv W' w.heap.size (k + 1) D' m) (hm : m = l.take (k + 1)) (hg : W.grownBy W' (some w.heap.size)) : IdxSt w W' (k + 1) D' l :=
  ⟨hm ▸ hM, below_row h.bel hg (Nat.le_refl _) (Nat.le_refl _)⟩
theorem IdxSt.lt {w W : World} {k : Nat} {D : DataW Value} {l : List Dv} (h : IdxSt w W k D l) : w.heap.size < W.heap.size := h.map.own.lt
/-- What index returns. -/
def IdxPost (l : List Dv) (w : World) (e : Ending) (w' : World) : Prop :=
  Below w.heap.size w w' ∧ ((dupL l = true ∧ e = .returned (.tuple #[.map none, .bool false])) ∨ (dupL l = false ∧ e = .returned (.tuple #[.map (some w.heap.size), .bool true]) ∧ ∃ k D, MapDv w' w.heap.size k D l))

set_option maxRecDepth 20000 in
set_option maxHeartbeats 8000000 in
theorem index_any (A : Option Addr) (n c B : Nat) (l : List Dv) (w : World) (hA : HasDv w B A n l) (hS : SmDv l) (hn : n ≤ 1000000) (hnc : n ≤ c) (hB : B ≤ w.heap.size) :
    Calls Tryd.prog 11 #[.slice A n c] w (IdxPost l w) := by
  have hl := hA.1
  have hmm : ∀ W, (Instr.makeMap 35 (some (.int .i64 n))).run Tryd.prog W = .ok (.map (some W.heap.size)) (W.alloc (.map #[] 0)) := fun W => make_hint W n
  have HA := Lib.hid hA
  have HS := Lib.hid hS
  have HL := Lib.hid hl
  clear hA hS hl
  go_enter Tryd.func11, Tryd.ntmps11
  go_wp2
  go_loopw [14] (fun i wr => ∃ (k : Nat) (D : DataW Value), k ≤ n ∧ i = .int .i64 k ∧ Hid (IdxSt w wr k D l) ∧ Hid (dupL (l.take k) = false)) (fun i _ => n - (intOf i).toNat)
  case atStart => exact ⟨0, .map [], Nat.zero_le _, rfl, Lib.hid (IdxSt.start w l), Lib.hid rfl⟩
  case round =>
    obtain ⟨k, D, hk, rfl, HI, HD⟩ := hrel
    have hkb : (k : Int) ≤ 1000000 := by omega
    have i0 : (0 : Int) ≤ (k : Int) := by omega
    by_cases hlt : k < n
    · have i1 : (k : Int) < (n : Int) := by omega
      have hkl : k < l.length := by rw [HL.out]; exact hlt
      obtain ⟨b, off, rfl, hb, g0, g1, g2⟩ := (HA.out.below' HI.out.bel hB).at_ hlt
      have hsz : (bs l[k].name).size ≤ maxLen := by
        have := (HS.out _ (List.getElem_mem hkl)).1
        rw [bs_size]
        unfold maxLen
        omega
      have hkm : k < maxLen := by unfold maxLen; omega
      have HT := Lib.hid (List.take_succ_eq_append_getElem hkl)
      cases hby : byN (l.take k) l[k].name with
      | some e =>
        have HX := Lib.hid (dup_at hkl (by rw [hby]; rfl))
        generalize l[k] = d at *
        have hby2 : byN (l.take k) (ls (bs d.name)) = some e := by rw [ls_bs]; exact hby
        clear hkl hby HT
        go_wp2_with (first
          | (refine wpList_load_dvm (by rfl) _ rfl b (off + k * 3) (by exact rfl) _ _ _ g0 g1 g2 ?_)
          | (refine wpList_alloc_arr _ rfl 6 rfl _ rfl dz zeroDv ?_; intro W2 p6 hp6 hq6 hR6 hG6)
          | (refine wpList_store_dv rfl rfl _ _ rfl p6 (by exact rfl) (bs d.name) (bs d.value) d.has (by exact rfl) _ _ _ hR6 ?_
             intro W3 hr6 hG3
             have hE3 := (HI.out.grow0 hG6).grow hG3 (Nat.lt_of_lt_of_le HI.out.lt hp6)
             have c0 := (RowDv.cells hr6).1
             have HE3 := Lib.hid hE3
             have HR3 := Lib.hid hr6
             clear hG3 hG6 hR6 hr6 hE3 hq6)
          | (at_lookup; refine wpList_look_hit rfl _ _ rfl HE3.out.map (by exact rfl) (bs d.name) (by exact rfl) hsz e hby2 ?_)
          | (refine wpList_alloc_arr _ rfl 7 rfl _ rfl dz zeroDv ?_; intro W4 p7 hp7 hq7 hR7 hG7)
          | (refine wpList_store_dv rfl rfl _ _ rfl p7 (by exact rfl) (bs e.name) (bs e.value) e.has (by exact rfl) _ _ _ hR7 ?_
             intro W5 hr7 hG5
             have hE5 := (HE3.out.grow0 hG7).grow hG5 (Nat.lt_of_lt_of_le HE3.out.lt hp7)
             have HE5 := Lib.hid hE5
             clear hG5 hG7 hR7 hr7 hE5 hq7))
        first | go_ret2 | (rw [Exit.noGoto_ret]; go_ret2) | (go_step3; go_wp2; go_ret2)
        exact ⟨HE5.out.bel, .inl ⟨HX.out, rfl⟩⟩
      | none =>
        have HX := Lib.hid (dup_next hkl HD.out hby)
        generalize l[k] = d at *
        have hby2 : byN (l.take k) (ls (bs d.name)) = none := by rw [ls_bs]; exact hby
        clear hkl
        go_wp2_with (first
          | (refine wpList_load_dvm (by rfl) _ rfl b (off + k * 3) (by exact rfl) _ _ _ g0 g1 g2 ?_)
          | (refine wpList_alloc_arr _ rfl 6 rfl _ rfl dz zeroDv ?_; intro W2 p6 hp6 hq6 hR6 hG6)
          | (refine wpList_store_dv rfl rfl _ _ rfl p6 (by exact rfl) (bs d.name) (bs d.value) d.has (by exact rfl) _ _ _ hR6 ?_
             intro W3 hr6 hG3
             have hE3 := (HI.out.grow0 hG6).grow hG3 (Nat.lt_of_lt_of_le HI.out.lt hp6)
             have c0 := (RowDv.cells hr6).1
             have HE3 := Lib.hid hE3
             have HR3 := Lib.hid hr6
             clear hG3 hG6 hR6 hr6 hE3 hq6)
          | (at_lookup; refine wpList_look_miss rfl _ _ rfl HE3.out.map (by exact rfl) (bs d.name) (by exact rfl) hsz hby2 ?_)
          | (refine wpList_alloc_arr _ rfl 7 rfl _ rfl dz zeroDv ?_; intro W4 p7 hp7 hq7 hR7 hG7)
          | (refine wpList_store_dv rfl rfl _ _ rfl p7 (by exact rfl) ⟨#[]⟩ ⟨#[]⟩ false (by exact rfl) _ _ _ hR7 ?_
             intro W5 hr7 hG5
             have hE5 := (HE3.out.grow0 hG7).grow hG5 (Nat.lt_of_lt_of_le HE3.out.lt hp7)
             have hlt6 : p6 ≠ p7 := by have := Row.lt HR3.out; omega
             have hr5 : RowDv W5 p6 (bs d.name) (bs d.value) d.has := Row.grown (Row.grown0 HR3.out hG7) hG5 hlt6
             have c1 := (RowDv.cells hr5).1
             have HE5 := Lib.hid hE5
             clear hG5 hG7 hR7 hr7 hE5 hq7 hlt6)
          | (refine wpList_load_dv (by rfl) _ rfl p6 (by exact rfl) _ _ _ hr5 ?_)
          | (at_mapUpdate; refine wpList_put_dv rfl _ _ _ rfl HE5.out.map (by exact rfl) hkm d (by exact rfl) hsz (by exact rfl) hby ?_
             intro W6 D6 hM6 hG6
             have HE6 := Lib.hid (HE5.out.next hM6 HT.out.symm hG6)
             clear hM6 hG6))
        go_roundw
        case rel => exact ⟨k + 1, D6, by omega, by go_num, HE6, HX⟩
        case measure => simp [intOf]; omega
    · obtain rfl : k = n := by omega
      have HN : Hid (l.take k = l) := Lib.hid (List.take_of_length_le (by rw [HL.out]; omega))
      have HM : Hid (MapDv _ _ _ _ _) := Lib.hid HI.out.map
      rw [HN.out] at HM HD
      go_wp2
      first | go_ret2 | (rw [Exit.noGoto_ret]; go_ret2) | (go_step3; go_wp2; go_ret2)
      exact ⟨HI.out.bel, .inr ⟨HD.out, rfl, _, _, HM.out⟩⟩

end Go.Proofs.YtpopkeidpohdiaaDoor
