/-
  The reference's Merge of layer 20; Parse of both.
-/
import Derived.Test.YtgilpheclmmolaaCsU
import Derived.Test.YtgilpheclmmolaaCsG
namespace Go.Proofs.Ytgilpheclmmolaa
open Go.RowKit

/-- Where the loop over the values stands. -/
structure RM (w : World) (r2 b4 N : Nat) (c : Cv) (A : Option Addr) (k : Nat) (W : World) : Prop where
  res : RowCv W r2 false false none 0 0
  row : RowCv W b4 c.up c.bl A c.names.length k
  own : W.ownsRow N 9 1 (.slice A c.names.length k) c.names.length (wv c.names)
  bel : Below w.heap.size w W
  hr : w.heap.size ≤ r2
  hb : w.heap.size ≤ b4
  hrN : r2 < N
  hbN : b4 < N
  hN : N ≤ W.heap.size
  ne : r2 ≠ b4
section
variable {w W W' : World} {r2 b4 N : Nat} {c c' : Cv} {A A' : Option Addr} {k k' : Nat}
theorem RM.drew (h : RM w r2 b4 N c A k W) : RM w r2 b4 N c A k W.drew := ⟨h.res, h.row, h.own, h.bel.drew, h.hr, h.hb, h.hrN, h.hbN, h.hN, h.ne⟩
/-- add has come back; its answer lies in the variable. -/
theorem RM.next {W5 : World} (h : RM w r2 b4 N c A k W) (hown : W5.ownsRow N 9 1 (.slice A' c'.names.length k') c'.names.length (wv c'.names)) (hb : Below N W W5) :
    RowCv W5 b4 c.up c.bl A c.names.length k ∧ ∀ W6, RowCv W6 b4 c'.up c'.bl A' c'.names.length k' → W5.grownBy W6 (some b4) → RM w r2 b4 N c' A' k' W6 := by
  have hN := h.hN
  have r5 : RowCv W5 b4 c.up c.bl A c.names.length k := (hb.block _ h.hbN).trans h.row
  refine ⟨r5, fun W6 hr hg => ⟨?_, hr, hown.kept hg (.inr fun e => row_other (by decide) (show W5.heap[b4]? = _ from r5) hown e.symm), ?_, h.hr, h.hb, h.hrN, h.hbN, ?_, h.ne⟩⟩
  · exact (hg.block _ (by have := hb.size; have := h.hrN; omega) (fun e => h.ne (by simpa using e))).trans ((hb.block _ h.hrN).trans h.res)
  · have h1 := h.bel.trans (hb.mono (by have := h.hr; have := h.hrN; omega))
    exact h1.grown hg h1.size (fun j e => by cases e; exact h.hb)
  · have := hb.size
    have := hg.size
    omega
end
theorem addV_len {c : Cv} {v : List UInt8} (h : v.length ≤ 4096) : (addV c v).names.length ≤ c.names.length + 16785409 := by
  rw [addV_names, names_fold]
  have h1 := fold_len (namesV v) c.names
  have h2 := namesV_len h
  omega
/-- What is asked of Merge. -/
def MerC (f : Nat) : Prop := ∀ (A : Option Addr) (cap : Nat) (vs : List (List UInt8)) (w : World), vs.length ≤ 20 → (∀ v ∈ vs, v.length ≤ maxLen) → Has w w.heap.size A vs.length (wv vs) →
  Calls Try.prog f #[.slice A vs.length cap] w (CspPost (mergeC vs) w)

set_option maxRecDepth 100000 in
set_option maxHeartbeats 4000000 in
theorem refMerge_any : MerC 12 := by
  intro A cap vs w hn _ hH
  go_enter Try.func12, Try.ntmps12
  go_wp2_with (first
    | (refine wpList_alloc_arr _ rfl 2 rfl _ rfl #[.bool false, .bool false, .slice none 0 0] zeroCv ?_; intro W2 r2 hp2 hq2 hR2 hG2)
    | (refine wpList_alloc_arr _ rfl 4 rfl _ rfl #[.bool false, .bool false, .slice none 0 0] zeroCv ?_; intro W4 b4 hp4 hq4 hR4 hG4))
  have hR : RM w r2 b4 W4.heap.size cv0 none 0 W4 := by
    have g2 : Below w.heap.size w W2 := (Below.refl _ w).grown hG2 (Nat.le_refl _) (fun j e => by cases e)
    have g4 : Below W2.heap.size W2 W4 := (Below.refl _ W2).grown hG4 (Nat.le_refl _) (fun j e => by cases e)
    have hz2 := g2.size
    have hz4 := g4.size
    exact ⟨(g4.block _ hq2).trans hR2, hR4, World.ownsRow_nil _ _ _ _, g2.trans (g4.mono hz2), hp2, by omega, by omega, hq4, Nat.le_refl _, by omega⟩
  clear hp2 hq2 hR2 hG2 hp4 hq4 hR4 hG4
  generalize W4.heap.size = N at *
  go_loopw [5] (fun i wr => ∃ (ip : Nat) (Ai : Option Addr) (ki : Nat) (ci : Cv), i = .int .i64 ip ∧ ip ≤ vs.length ∧ Hid (ci = (vs.take ip).foldl addV cv0) ∧ ci.names.length ≤ ip * 16785409 ∧ RM w r2 b4 N ci Ai ki wr ∧ Hid (∀ j (h : j < vs.length), j < ip → vs[j].length ≤ 4096)) (fun i _ => vs.length - (intOf i).toNat)
  case atStart => exact ⟨0, none, 0, cv0, rfl, Nat.zero_le _, Lib.hid rfl, by simp [cv0], hR, Lib.hid fun _ _ h => by omega⟩
  case round =>
    clear hR
    obtain ⟨ip, Ai, ki, ci, rfl, hip, HCI, hli, hRi, HSM⟩ := hrel
    by_cases hlt : ip < vs.length
    · have hHW : Has wr w.heap.size A vs.length (wv vs) := hH.below hRi.bel
      obtain ⟨b, off, rfl, hc⟩ := str_cell hHW ip hlt
      rw [List.getD_eq_getElem?_getD, List.getElem?_eq_getElem hlt, Option.getD_some] at hc
      have HSU : Hid ((vs.take (ip + 1)).foldl addV cv0 = addV ci vs[ip]) := by
        refine Lib.hid ?_
        rw [List.take_succ_eq_append_getElem hlt, List.foldl_append, ← HCI.out]
        rfl
      have hTA : 4096 < vs[ip].length → mergeC vs = (cv0, 3) := too_at hlt
      have hXs : (bs vs[ip]).size = vs[ip].length := bs_size _
      have hXl : ls (bs vs[ip]) = vs[ip] := ls_bs _
      have hsm' : vs[ip].length ≤ 4096 → ∀ j (h : j < vs.length), j < ip + 1 → vs[j].length ≤ 4096 := fun h4 j h hj => by
        by_cases hjk : j = ip
        · subst hjk; exact h4
        · exact HSM.out j h (by omega)
      have HS2 := Lib.hid hsm'
      have HTA := Lib.hid hTA
      have HXL := Lib.hid hXl
      clear hsm' hTA hXl hHW
      generalize hXX : bs vs[ip] = X at *
      clear hXX
      by_cases hb : 4096 < X.size
      · have hd : decide ((4096 : Int) < (X.size : Int)) = true := decide_eq_true (by omega)
        have HM : Hid (mergeC vs = (cv0, 3)) := Lib.hid (HTA.out (by omega))
        clear hb HTA HS2 HSU hXs
        go_wp2_with (refine wpList_store_cv rfl rfl _ _ rfl r2 (by exact rfl) false false none 0 0 (by exact rfl) _ _ _ _ _ hRi.res ?_; intro W9 hr9 hG9)
        refine ret_cv 2 3 rfl rfl hr9 _ rfl rfl ?_
        rw [HM.out]
        exact ⟨none, 0, rfl, ⟨Nat.le_refl _, fun _ => rfl⟩, Has.nil _ _ _, hRi.bel.grown hG9 hRi.bel.size (fun j e => by cases e; exact hRi.hr)⟩
      · have hd : decide ((4096 : Int) < (X.size : Int)) = false := decide_eq_false (by omega)
        have hXz : X.size ≤ 4096 := by omega
        have HS3 := Lib.hid (HS2.out (by omega))
        have hlen := addV_len (c := ci) (v := vs[ip]) (by omega)
        rw [← HXL.out] at hlen
        have HS4 : Hid ((vs.take (ip + 1)).foldl addV cv0 = addV ci (ls X)) := Lib.hid (by rw [HSU.out, HXL.out])
        have hk20 : ip * 16785409 ≤ 19 * 16785409 := Nat.mul_le_mul_right _ (by omega)
        have cadd := fun W hN hown => refAdd_any N ci Ai ki X W hXz (by omega) hN hown
        generalize addV ci (ls X) = cN at *
        clear hb HTA HS2 HSU hXs HXL
        go_wp2
        refine wp_region_any (by kernel_rfl) ?_
        change wpAny _ _ _ _ _ _ _ (World.drew _)
        have hRd := hRi.drew
        have hcd : wr.drew.cell? ⟨b, off + ip, none⟩ = some (.string X) := hc
        clear hRi hc
        generalize wr.drew = wd at *
        refine wpAny_take (i := 1) (v := .slice (some ⟨b, off, none⟩) vs.length cap) rfl (by kernel_rfl) (by kernel_rfl) (by kernel_rfl) (fun _ _ _ h => h) (Or.inl ⟨by rfl, by intro w; go_simp; try with_reducible rfl⟩) ?_
        refine wpAny_take (i := 2) (v := .int .i64 (ip : Int)) rfl (by kernel_rfl) (by kernel_rfl) (by kernel_rfl) (fun _ _ _ h => h) (Or.inl ⟨by rfl, by intro w; go_simp; try with_reducible rfl⟩) ?_
        refine wpAny_take (i := 3) (v := .pointer (some ⟨b, off + ip, none⟩)) rfl (by kernel_rfl) (by kernel_rfl) (by kernel_rfl) (fun _ _ _ h => h) (Or.inl ⟨by rfl, by intro w; go_simp; try with_reducible rfl⟩) ?_
        refine wpAny_ready (rs := [0, 4]) (by kernel_rfl) (by simp) (AllReady.cons rfl (fun K hK => ?_) (AllReady.cons rfl (fun K hK => ?_) AllReady.nil))
        · refine step_load_cv rfl _ rfl b4 (by rfl) ci.up ci.bl Ai ci.names.length ki hRd.row ?_
          refine hK _ _ ?_
          clear hK K
          refine wpAny_ready (rs := [4]) (by kernel_rfl) (by simp) (AllReady.cons rfl (fun K hK => ?_) AllReady.nil)
          go_simp
          refine hK _ _ ?_
          clear hK K
          refine wpAny_ready (rs := [5]) (by kernel_rfl) (by simp) (AllReady.cons rfl (fun K hK => ?_) AllReady.nil)
          go_simp
          go_wp2_with fail
          refine (cadd _ hRd.hN hRd.own).mono ?_
          rintro e w5 ⟨A', k', rfl, hown', hbel'⟩
          obtain ⟨r5, hnx⟩ := hRd.next hown' hbel'
          refine hK _ _ ?_
          clear hK K
          refine wpAny_ready (rs := [6]) (by kernel_rfl) (by simp) (AllReady.cons rfl (fun K hK => ?_) AllReady.nil)
          refine step_store_cv rfl rfl _ _ rfl b4 (by rfl) cN.up cN.bl A' cN.names.length k' (by rfl) _ _ _ _ _ r5 ?_
          intro w6 hr6 hg6
          have hR6 := hnx w6 hr6 hg6
          refine hK _ _ ?_
          clear hK K
          refine wpAny_done (by kernel_rfl) ?_ _
          clear hRd hcd r5 hnx hown' hbel' hr6 hg6 cadd
          go_wp2
          go_roundw
          case rel => exact ⟨ip + 1, A', k', cN, by go_num, by omega, Lib.hid HS4.out.symm, by omega, hR6, HS3⟩
          case measure => simp [intOf]; omega
        · go_simp
          refine hK _ _ ?_
          clear hK K
          refine wpAny_ready (rs := [0]) (by kernel_rfl) (by simp) (AllReady.cons rfl (fun K hK => ?_) AllReady.nil)
          refine step_load_cv rfl _ rfl b4 (by rfl) ci.up ci.bl Ai ci.names.length ki hRd.row ?_
          refine hK _ _ ?_
          clear hK K
          refine wpAny_ready (rs := [5]) (by kernel_rfl) (by simp) (AllReady.cons rfl (fun K hK => ?_) AllReady.nil)
          go_simp
          go_wp2_with fail
          refine (cadd _ hRd.hN hRd.own).mono ?_
          rintro e w5 ⟨A', k', rfl, hown', hbel'⟩
          obtain ⟨r5, hnx⟩ := hRd.next hown' hbel'
          refine hK _ _ ?_
          clear hK K
          refine wpAny_ready (rs := [6]) (by kernel_rfl) (by simp) (AllReady.cons rfl (fun K hK => ?_) AllReady.nil)
          refine step_store_cv rfl rfl _ _ rfl b4 (by rfl) cN.up cN.bl A' cN.names.length k' (by rfl) _ _ _ _ _ r5 ?_
          intro w6 hr6 hg6
          have hR6 := hnx w6 hr6 hg6
          refine hK _ _ ?_
          clear hK K
          refine wpAny_done (by kernel_rfl) ?_ _
          clear hRd hcd r5 hnx hown' hbel' hr6 hg6 cadd
          go_wp2
          go_roundw
          case rel => exact ⟨ip + 1, A', k', cN, by go_num, by omega, Lib.hid HS4.out.symm, by omega, hR6, HS3⟩
          case measure => simp [intOf]; omega
    · obtain rfl : ip = vs.length := by omega
      have HE : Hid (mergeC vs = (ci, 0)) := Lib.hid (by
        rw [not_too fun v hv => by
          obtain ⟨j, hj, rfl⟩ := List.getElem_of_mem hv
          exact HSM.out j hj hj, HCI.out, List.take_length])
      clear HCI HSM hH
      go_wp2_with (first
        | (refine wpList_load_cv (by rfl) _ rfl b4 (by exact rfl) _ _ _ _ _ hRi.row ?_)
        | (refine wpList_store_cv rfl rfl _ _ rfl r2 (by exact rfl) ci.up ci.bl Ai ci.names.length ki (by exact rfl) _ _ _ _ _ hRi.res ?_; intro W9 hr9 hG9))
      refine ret_cv 2 3 rfl rfl hr9 _ rfl rfl ?_
      rw [HE.out]
      obtain ⟨A9, k9, e9, hh9, hk9⟩ := Has.of_own (hRi.own.kept hG9 (.inr fun e => row_other (by decide) (show wr.heap[r2]? = _ from hRi.res) hRi.own e.symm))
      cases e9
      exact ⟨_, _, rfl, ⟨hk9, of_own_none hRi.own⟩, hh9, hRi.bel.grown hG9 hRi.bel.size (fun j e => by cases e; exact hRi.hr)⟩

/-- What is asked of Parse. -/
def ParC (f : Nat) : Prop := ∀ (s : ByteArray) (w : World), s.size ≤ maxLen → Calls Try.prog f #[.string s] w (CspPost (mergeC [ls s]) w)
theorem has_one (w : World) (x : ByteArray) : Has (w.alloc (.cells #[.string x] 9)) (w.alloc (.cells #[.string x] 9)).heap.size (some ⟨w.heap.size, 0, none⟩) 1 (wv [ls x]) := by
  refine ⟨rfl, fun _ => ⟨_, _, rfl, by simp, fun j hj => ?_⟩⟩
  have hj0 : j = 0 := by simp [wv] at hj; omega
  subst hj0
  have := cell_one_new w (.string x) 9 0 (.string x) rfl
  simp only [wv, List.map_cons, List.getElem_cons_zero, bs_ls]
  exact this
theorem pMer : MerC 11 := merge_any
theorem CspPost.from {r : Cv × Int} {w w1 : World} {e : Ending} {w' : World} (hb : Below w.heap.size w w1) (h : CspPost r w1 e w') : CspPost r w e w' := by
  obtain ⟨A, k, h1, h2, h3, h4⟩ := h
  exact ⟨A, k, h1, h2, h3, hb.trans (h4.mono hb.size)⟩

end Go.Proofs.Ytgilpheclmmolaa
