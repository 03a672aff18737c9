/-
  Contract of Numeric of the reference of layer 10.
-/
import Derived.Test.YtmgmepikgccmcaaDoorIp2
import Derived.Test.YtmgmepikgccmcaaDoorIp3
import Derived.Test.YtmgmepikgccmcaaDoorIpG
namespace Go.Proofs.YtmgmepikgccmcaaDoor
open Go.RowKit

theorem partsL_pos (l : List UInt8) : 0 < (partsL l).length := by
  unfold partsL
  have := splitL_pos 46 l
  split
  · rename_i h; simp; omega
  · exact this
theorem partsL_length (l : List UInt8) : (partsL l).length ≤ l.length + 1 := by
  unfold partsL
  have := splitL_length 46 l
  split
  · simp; omega
  · exact this
theorem splitG_sizes (c : UInt8) : ∀ l cur, ∀ x ∈ splitG c l cur, x.length ≤ l.length + cur.length
  | [], cur, x, hx => by simp [splitG] at hx; subst hx; simp
  | b :: r, cur, x, hx => by
    unfold splitG at hx
    split at hx
    · rcases List.mem_cons.1 hx with h | h
      · subst h; simp
      · have := splitG_sizes c r [] x h; simp at this ⊢; omega
    · have := splitG_sizes c r (cur ++ [b]) x hx; simp at this ⊢; omega
theorem partsL_sizes (l : List UInt8) (x : List UInt8) (hx : x ∈ partsL l) : x.length ≤ l.length := by
  have key : ∀ y ∈ splitL 46 l, y.length ≤ l.length := fun y hy => by have := splitG_sizes 46 l [] y hy; simpa using this
  unfold partsL at hx
  split at hx
  · exact key x (List.dropLast_subset _ hx)
  · exact key x hx
theorem getD_mem {α : Type _} (l : List α) (k : Nat) (d : α) (h : k < l.length) : l.getD k d ∈ l := by
  rw [List.getD_eq_getElem?_getD, List.getElem?_eq_getElem h, Option.getD_some]
  exact List.getElem_mem h

set_option maxHeartbeats 1000000 in
theorem refNumeric_any (s : ByteArray) (w : World) (hs : s.size ≤ 1000000000) :
    Calls Tryd.prog 13 #[.string s] w fun e w' => e = .returned (.bool (numericL (ls s))) ∧ Below w.heap.size w w' := by
  have hpar := refParts_any s w hs
  have hpos := partsL_pos (ls s)
  have hlen := partsL_length (ls s)
  have hsz := partsL_sizes (ls s) _ (getD_mem (partsL (ls s)) ((partsL (ls s)).length - 1) [] (by omega))
  have HN : Hid (numericL (ls s) = lastNum ((partsL (ls s)).getD ((partsL (ls s)).length - 1) [])) := by
    show _ = _
    rw [getD_last _ _ hpos]; rfl
  rw [ls_length] at hlen hsz
  generalize partsL (ls s) = P at *
  obtain ⟨m, hm⟩ : ∃ n, n = P.length := ⟨_, rfl⟩
  obtain ⟨k, hk⟩ : ∃ k, k = m - 1 := ⟨_, rfl⟩
  have hm1 : (m : Int) - 1 = ((k : Nat) : Int) := by omega
  have hkm : k < m := by omega
  have hkb : k ≤ 1000000001 := by omega
  unfold StrsPost at hpar
  rw [← hm] at hpar
  rw [← hm, ← hk] at hsz HN
  obtain ⟨x, hx⟩ : ∃ x, x = P.getD k [] := ⟨_, rfl⟩
  rw [← hx] at hsz HN
  have c1 := refDigits_any (bs x)
  have c2 := refNumber_any (bs x)
  rw [ls_bs] at c2
  rw [bs_size] at c1 c2
  have HD : Hid (digitsB (bs x) = (x.all digitU && !x.isEmpty)) := by show _ = _; unfold digitsB; rw [ls_bs]
  have hcellX : ∀ w1 A, Has w1 w1.heap.size A m (wv P) → ∃ b off, A = some ⟨b, off, none⟩ ∧ w1.cell? ⟨b, off + k, none⟩ = some (.string (bs x)) := fun w1 A h => by
    rw [hx]; exact str_cell h k hkm
  obtain ⟨X, hX⟩ : ∃ X, X = bs x := ⟨_, rfl⟩
  have HXL : Hid (X.size = x.length) := by show _ = _; rw [hX, bs_size]
  have HXG : Hid (∀ h : 1 < X.size, X[1] = x.getD 1 0) := by
    refine Lib.hid fun h => ?_
    have hl : 1 < x.length := by rw [← HXL.out]; exact h
    have e := ls_getE X 1 h
    have e2 : ls X = x := by rw [hX, ls_bs]
    rw [List.getD_eq_getElem?_getD, List.getElem?_eq_getElem hl, Option.getD_some]
    have e3 : (ls X)[1]'(by rw [ls_length]; exact h) = x[1] := by simp only [e2]
    rw [← e3]; exact (e _).symm
  rw [← hX] at c1 c2 hcellX HD
  clear hm hk hx hX hlen hpos
  go_enter Tryd.func13, Tryd.ntmps13
  go_wp2_with fail
  refine hpar.mono ?_
  rintro e w1 ⟨A, c, rfl, hmc, hh, hb⟩
  obtain ⟨b, off, rfl, hcell⟩ := hcellX w1 A hh
  clear hpar hcellX hh
  cases hdg : digitsB X with
  | true =>
    rw [hdg] at c1
    have HY : Hid (numericL (ls s) = true) := by
      show _ = _
      rw [HN.out]
      unfold lastNum
      rw [← HD.out, hdg]
      rfl
    clear hdg
    go_wp2_with (go_at_call 29; refine (c1 _ (by omega)).mono ?_; rintro e w' ⟨rfl, rfl⟩)
    go_ret
    exact ⟨ret_bool HY.out.symm, hb⟩
  | false =>
    rw [hdg] at c1
    have HY : Hid (numericL (ls s) = (nK x && decide (2 ≤ x.length) && (x.getD 1 0 == 120 || x.getD 1 0 == 88))) := by
      show _ = _
      rw [HN.out]
      unfold lastNum
      rw [← HD.out, hdg]
      rfl
    clear hdg
    generalize nK x = kk at *
    cases kk with
    | false =>
      go_wp2_with (first | (go_at_call 29; refine (c1 _ (by omega)).mono ?_; rintro e w' ⟨rfl, rfl⟩) | (go_at_call 25; refine (c2 _ (by omega)).mono ?_; rintro e w2 ⟨rfl, hb2⟩))
      go_ret
      exact ⟨ret_bool (by rw [HY.out]; rfl), hb.trans (hb2.mono hb.size)⟩
    | true =>
      by_cases h2 : 2 ≤ X.size
      · have h2d : decide ((2 : Int) ≤ (X.size : Int)) = true := decide_eq_true (by omega)
        have hl1 : 1 < X.size := by omega
        have hXd : decide (2 ≤ x.length) = true := decide_eq_true (by rw [← HXL.out]; exact h2)
        have HG := Lib.hid (HXG.out hl1)
        have h3 : ((X[1].toNat : Int) == 120) = (x.getD 1 0 == 120) := by
          rw [← HG.out]
          apply Bool.eq_iff_iff.2
          simp only [beq_iff_eq]
          exact ⟨fun e => UInt8.toNat_inj.1 (by rw [show (120 : UInt8).toNat = 120 from rfl]; omega), fun e => by rw [e]; rfl⟩
        have h4 : ((X[1].toNat : Int) == 88) = (x.getD 1 0 == 88) := by
          rw [← HG.out]
          apply Bool.eq_iff_iff.2
          simp only [beq_iff_eq]
          exact ⟨fun e => UInt8.toNat_inj.1 (by rw [show (88 : UInt8).toNat = 88 from rfl]; omega), fun e => by rw [e]; rfl⟩
        have HY2 : Hid (numericL (ls s) = ((x.getD 1 0 == 120) || (x.getD 1 0 == 88))) := by show _ = _; rw [HY.out, hXd]; simp
        generalize (x.getD 1 0 == 120) = q1 at *
        generalize (x.getD 1 0 == 88) = q2 at *
        clear hXd HY
        cases q1 <;> cases q2 <;>
        · go_wp2_with (first | (go_at_call 29; refine (c1 _ (by omega)).mono ?_; rintro e w' ⟨rfl, rfl⟩) | (go_at_call 25; refine (c2 _ (by omega)).mono ?_; rintro e w2 ⟨rfl, hb2⟩))
          go_ret
          exact ⟨ret_bool (by rw [HY2.out]; rfl), hb.trans (hb2.mono hb.size)⟩
      · have h2d : decide ((2 : Int) ≤ (X.size : Int)) = false := decide_eq_false (by omega)
        have hXd : decide (2 ≤ x.length) = false := decide_eq_false (by rw [← HXL.out]; exact h2)
        have HY2 : Hid (numericL (ls s) = false) := by show _ = _; rw [HY.out, hXd]; simp
        clear hXd HY
        go_wp2_with (first | (go_at_call 29; refine (c1 _ (by omega)).mono ?_; rintro e w' ⟨rfl, rfl⟩) | (go_at_call 25; refine (c2 _ (by omega)).mono ?_; rintro e w2 ⟨rfl, hb2⟩))
        go_ret
        exact ⟨ret_bool (by rw [HY2.out]), hb.trans (hb2.mono hb.size)⟩

end Go.Proofs.YtmgmepikgccmcaaDoor
