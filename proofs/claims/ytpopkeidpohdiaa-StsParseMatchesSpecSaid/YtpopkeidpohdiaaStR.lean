/-
  The reference of layer 19: Parse.
-/
import Derived.Test.YtpopkeidpohdiaaStA
import Derived.Test.YtpopkeidpohdiaaSecR
import Derived.Test.YtpopkeidpohdiaaDiE
import Derived.Deep.QuietTactic
import Derived.BigQuiet
namespace Go.Proofs.Ytpopkeidpohdiaa
open Go.RowKit

theorem byN_take_none {l : List Dv} {n : List UInt8} {i : Nat} (h : ∀ j, j < i → ∀ hj : j < l.length, l[j].name ≠ n) : byN (l.take i) n = none := by
  unfold byN
  rw [List.find?_eq_none]
  intro d hd
  obtain ⟨j, hj, rfl⟩ := List.getElem_of_mem hd
  rw [List.length_take] at hj
  rw [List.getElem_take]
  have := h j (by omega) (by omega)
  simpa using this
theorem byN_take_some {l : List Dv} {n : List UInt8} {i j : Nat} (h : j < i) (hj : j < l.length) (he : l[j].name = n) : (byN (l.take i) n).isSome = true := by
  rw [← some_by, List.any_eq_true]
  refine ⟨l[j], ?_, by simpa using he⟩
  rw [List.mem_take_iff_getElem]
  exact ⟨j, by omega, rfl⟩
theorem dup_pair {l : List Dv} {i j : Nat} (h : j < i) (hi : i < l.length) (hj : j < l.length) (he : l[i].name = l[j].name) : dupL l = true := dup_at hi (byN_take_some h hj he.symm)
theorem pol_at {l : List Dv} {k : Nat} (hk : k < l.length) (p : Pv) (f : Bool) : polGo (l.drop k) p f =
    if l[k].name = nmA then (if digitsB (bs l[k].value) then polGo (l.drop (k + 1)) ⟨perV (bs l[k].value), p.sub⟩ true else (pv0, 6))
    else if l[k].name = nmI then (if l[k].has then (pv0, 6) else polGo (l.drop (k + 1)) ⟨p.age, true⟩ f)
    else polGo (l.drop (k + 1)) p f := by
  rw [List.drop_eq_getElem_cons hk, polGo]
theorem is_a (n : List UInt8) : ((bs n).toList == [109, 97, 120, 45, 97, 103, 101]) = decide (n = nmA) := by
  rw [← bs_beq n nmA, toList_ls (bs nmA), ls_bs]
  rfl
theorem is_i (n : List UInt8) : ((bs n).toList == [105, 110, 99, 108, 117, 100, 101, 115, 117, 98, 100, 111, 109, 97, 105, 110, 115]) = decide (n = nmI) := by
  rw [← bs_beq n nmI, toList_ls (bs nmI), ls_bs]
  rfl
/-- None of the first m has the name of the k'th. -/
def NoN (l : List Dv) (k m : Nat) : Prop := ∀ j, j < m → ∀ (hj : j < l.length) (hk : k < l.length), l[j].name ≠ l[k].name
theorem NoN.next {l : List Dv} {k m : Nat} (h : NoN l k m) (hm : m < l.length) (hk : k < l.length) (he : ¬ l[k].name = l[m].name) : NoN l k (m + 1) := by
  intro j hj hjl hkl
  by_cases e : j = m
  · subst e
    exact fun x => he x.symm
  · exact h j (by omega) hjl hkl
theorem NoN.dup {l : List Dv} {k : Nat} (h : NoN l k k) (hk : k < l.length) (h0 : dupL (l.take k) = false) : dupL (l.take (k + 1)) = false :=
  dup_next hk h0 (byN_take_none fun j hj hjl => h j hj hjl hk)
/-- While doubles are looked for. -/
structure QSt (w w1 W : World) (p : Nat) : Prop where
  res : RSt19 w W p 0 false
  bel : Below w1.heap.size w1 W
/-- While the directives are read. -/
structure PSt19 (w w1 W : World) (p p8 : Nat) (a : Int) (s : Bool) : Prop where
  res : RSt19 w W p 0 false
  bel : Below w1.heap.size w1 W
  row : RowPv W p8 a s
  h8 : w1.heap.size ≤ p8
  hp : p < w1.heap.size
  hw : w.heap.size ≤ w1.heap.size
section
variable {w w1 W W' : World} {p p8 : Nat} {a a' : Int} {s s' : Bool}
theorem RSt19.drewN (h : RSt19 w W p a s) (m : Nat) : RSt19 w (W.drewN m) p a s := ⟨h.row, h.bel.trans ⟨rfl, rfl, rfl, Nat.le_refl _, fun _ _ => rfl⟩, h.hp⟩
theorem QSt.drewN (h : QSt w w1 W p) (m : Nat) : QSt w w1 (W.drewN m) p := ⟨h.res.drewN m, h.bel.trans ⟨rfl, rfl, rfl, Nat.le_refl _, fun _ _ => rfl⟩⟩
theorem QSt.box (h : QSt w w1 W p) (hp : p < w1.heap.size) (hw : w.heap.size ≤ w1.heap.size) (h8 : W.heap.size ≤ p8) (hr : RowPv W' p8 a s) (hg : W.grownBy W' none) : PSt19 w w1 W' p p8 a s :=
  ⟨h.res.grow0 hg, below_row0 h.bel hg (Nat.le_refl _), hr, Nat.le_trans h.bel.size h8, hp, hw⟩
theorem PSt19.set (h : PSt19 w w1 W p p8 a s) (hr : RowPv W' p8 a' s') (hg : W.grownBy W' (some p8)) : PSt19 w w1 W' p p8 a' s' :=
  ⟨h.res.grow hg (Nat.le_trans h.hw h.h8) (by have := h.hp; have := h.h8; omega), below_row h.bel hg (Nat.le_refl _) h.h8, hr, h.h8, h.hp, h.hw⟩
end

set_option maxRecDepth 20000 in
set_option maxHeartbeats 8000000 in
theorem refStsParse_any (s : ByteArray) (hs : s.size ≤ 1000000) (w : World) :
    Calls Try.prog 9 #[.string s] w (PolPost (stsP (ls s)) w) := by
  have hS := sm_of_len (dirL_lens (ls s)) (by rw [ls_length]; omega)
  have c1 := fun W => refDirParse_any s (by omega) W
  have hlen := dirL_len (ls s)
  have hR0 : stsP (ls s) = if (dirL (ls s)).2 = 0 then polL (dirL (ls s)).1 else (pv0, (dirL (ls s)).2) := rfl
  generalize stsP (ls s) = R at *
  generalize (dirL (ls s)).1 = l at *
  generalize (dirL (ls s)).2 = r at *
  by_cases hr : r = 0
  · subst hr
    rw [if_pos rfl] at hR0
    have HR := Lib.hid hR0
    have HS := Lib.hid hS
    obtain ⟨n, hn⟩ : ∃ n, n = l.length := ⟨_, rfl⟩
    rw [← hn] at hlen
    have HL := Lib.hid hn.symm
    clear hR0 hS
    go_enter Try.func9, Try.ntmps9
    go_wp2_with (first | (refine wpList_alloc_arr _ rfl 2 rfl _ rfl #[.int .i64 0, .bool false] zeroPv ?_; intro W2 p2 hp2 hq2 hR2 hG2))
    have hE := RSt19.start hp2 hR2 hG2
    clear hp2 hq2 hR2 hG2
    refine (c1 _).mono ?_
    rintro e w1 ⟨A, c, rfl, hc, _, hh, hb⟩
    have hE1 := hE.call hb
    have hlt1 := hE1.lt
    have hw1 := hE1.bel.size
    rw [← hn] at hc hh
    have HA := Lib.hid hh
    have HQ : Hid (QSt w w1 w1 p2) := Lib.hid ⟨hE1, Below.refl _ _⟩
    clear hb hh hE hE1
    rw [← hn]
    clear hn
    go_wp2
    go_loopw [6] (fun i wr => ∃ k : Nat, k ≤ n ∧ i = .int .i64 k ∧ Hid (QSt w w1 wr p2) ∧ Hid (dupL (l.take k) = false)) (fun i _ => n - (intOf i).toNat)
    case atStart => exact ⟨0, Nat.zero_le _, rfl, HQ, Lib.hid rfl⟩
    case round =>
      obtain ⟨k, hk, rfl, HQ, HD⟩ := hrel
      have hkb : (k : Int) ≤ 1000000 := by omega
      have i0 : (0 : Int) ≤ (k : Int) := by omega
      by_cases hlt : k < n
      · have i1 : (k : Int) < (n : Int) := by omega
        have hkl : k < l.length := by rw [HL.out]; exact hlt
        go_wp2
        go_loopw [7] (fun j wr => ∃ m : Nat, m ≤ k ∧ j = .int .i64 m ∧ Hid (QSt w w1 wr p2) ∧ Hid (NoN l k m)) (fun j _ => k - (intOf j).toNat)
        case atStart => exact ⟨0, Nat.zero_le _, rfl, HQ, Lib.hid (fun j hj => absurd hj (by omega))⟩
        case round =>
          clear HQ
          obtain ⟨m, hm, rfl, HQ, HN⟩ := hrel
          have j0 : (0 : Int) ≤ (m : Int) := by omega
          by_cases hmk : m < k
          · have j1 : (m : Int) < (k : Int) := by omega
            have hmn : m < n := by omega
            have hml : m < l.length := by omega
            obtain ⟨b, o, rfl, hb, g0, _, _⟩ := (HA.out.below' HQ.out.bel (Nat.le_refl _)).at_ hlt
            obtain ⟨b2, o2, ea, hb2, q0, _, _⟩ := (HA.out.below' HQ.out.bel (Nat.le_refl _)).at_ hmn
            injection ea with ea
            injection ea with eb eo
            subst eb eo
            have hj2 : (m : Int) < (n : Int) := by omega
            by_cases he : l[k].name = l[m].name
            · have HX : Hid (R = (⟨0, false⟩, 17)) := Lib.hid (by rw [HR.out, pol_dup (dup_pair hmk hkl hml he)]; rfl)
              have hq := bs_beq l[k].name l[m].name
              rw [decide_eq_true he] at hq
              clear he
              generalize bs l[k].name = N1 at *
              generalize bs l[m].name = N2 at *
              clear hml HN hkl
              go_wp2
              go_quiet (fail)
              go_wp2_with (first | (refine wpList_store_pv rfl rfl _ _ rfl p2 (by exact rfl) 0 false (by exact rfl) _ _ (HQ.out.res.drewN _).row ?_; intro W9 hr9 hG9))
              have hF := (HQ.out.res.drewN _).final hG9
              first | exact ret_pv 2 3 rfl p2 rfl _ _ hr9 _ rfl rfl (pol_ret HX.out hF) | (go_step3; exact ret_pv 2 3 rfl p2 rfl _ _ hr9 _ rfl rfl (pol_ret HX.out hF)) | (rw [Exit.noGoto_ret]; exact ret_pv 2 3 rfl p2 rfl _ _ hr9 _ rfl rfl (pol_ret HX.out hF))
            · have HN2 := Lib.hid (HN.out.next hml hkl he)
              have hq := bs_beq l[k].name l[m].name
              rw [decide_eq_false he] at hq
              clear he
              generalize bs l[k].name = N1 at *
              generalize bs l[m].name = N2 at *
              clear hml HN hkl
              go_wp2
              go_quiet (fail)
              go_wp2
              go_roundw
              case rel => exact ⟨m + 1, by omega, by go_num, Lib.hid (HQ.out.drewN _), HN2⟩
              case measure => simp [intOf]; omega
          · obtain rfl : m = k := by omega
            have HD2 := Lib.hid (HN.out.dup hkl HD.out)
            clear hkl
            go_wp2
            go_roundw
            case rel => exact ⟨m + 1, by omega, by go_num, HQ, HD2⟩
            case measure => simp [intOf]; omega
      · have hkn : (k : Int) = (n : Int) := by omega
        have HX : Hid (R = polGo (l.drop 0) pv0 false) := by
          show _ = _
          have h := HD.out
          rw [List.take_of_length_le (by rw [HL.out]; omega)] at h
          rw [HR.out, polL, h]
          rfl
        clear HD HR
        rw [hkn]
        clear hkn hlt i0 hkb hk
        clear k
        go_wp2_with (first | (refine wpList_alloc_arr _ rfl 8 rfl _ rfl #[.int .i64 0, .bool false] zeroPv ?_; intro W8 p8 hp8 hq8 hR8 hG8))
        have HP : Hid (PSt19 w w1 W8 p2 p8 0 false) := Lib.hid (HQ.out.box hlt1 hw1 hp8 hR8 hG8)
        clear HQ hp8 hq8 hR8 hG8
        go_loopw [9, 10] (fun f i wr => ∃ (k : Nat) (fb : Bool) (a : Int) (sb : Bool), k ≤ n ∧ i = .int .i64 k ∧ f = .bool fb ∧ Hid (PSt19 w w1 wr p2 p8 a sb) ∧ Hid (R = polGo (l.drop k) ⟨a, sb⟩ fb)) (fun _ i _ => n - (intOf i).toNat)
        case atStart => exact ⟨0, false, 0, false, Nat.zero_le _, rfl, rfl, HP, HX⟩
        case round =>
          clear HP HX
          obtain ⟨k, fb, a, sb, hk, rfl, rfl, HP, HG⟩ := hrel
          have hkb : (k : Int) ≤ 1000000 := by omega
          have i0 : (0 : Int) ≤ (k : Int) := by omega
          by_cases hlt : k < n
          · have i1 : (k : Int) < (n : Int) := by omega
            have hkl : k < l.length := by rw [HL.out]; exact hlt
            obtain ⟨b, o, rfl, hb, g0, g1, g2⟩ := (HA.out.below' HP.out.bel (Nat.le_refl _)).at_ hlt
            have hA := HG.out
            rw [pol_at hkl] at hA
            have hsm := HS.out _ (List.getElem_mem hkl)
            have cv := fun W => refParse_any (bs l[k].value) W (by rw [bs_size]; omega)
            have q1 := is_a l[k].name
            have q2 := is_i l[k].name
            clear hsm
            by_cases hnA : l[k].name = nmA
            · rw [decide_eq_true hnA] at q1
              rw [if_pos hnA] at hA
              clear hnA q2
              cases hdg : digitsB (bs l[k].value) with
              | false =>
                rw [hdg, if_neg (by decide)] at hA
                have HX : Hid (R = (⟨0, false⟩, 6)) := hA
                rw [hdg] at cv
                generalize bs l[k].name = N at *
                generalize bs l[k].value = V at *
                generalize l[k].has = H at *
                generalize perV V = x at *
                clear hdg hkl hA HG
                go_wp2_with fail
                refine (cv _).mono ?_
                rintro e W5 ⟨rfl, rfl⟩
                go_wp2_with (first | (refine wpList_store_pv rfl rfl _ _ rfl p2 (by exact rfl) 0 false (by exact rfl) _ _ HP.out.res.row ?_; intro W9 hr9 hG9))
                have hF := HP.out.res.final hG9
                first | exact ret_pv 2 3 rfl p2 rfl _ _ hr9 _ rfl rfl (pol_ret HX.out hF) | (go_step3; exact ret_pv 2 3 rfl p2 rfl _ _ hr9 _ rfl rfl (pol_ret HX.out hF)) | (rw [Exit.noGoto_ret]; exact ret_pv 2 3 rfl p2 rfl _ _ hr9 _ rfl rfl (pol_ret HX.out hF))
              | true =>
                rw [hdg, if_pos rfl] at hA
                rw [hdg] at cv
                generalize bs l[k].name = N at *
                generalize bs l[k].value = V at *
                generalize l[k].has = H at *
                generalize perV V = x at *
                have HX := Lib.hid hA
                clear hdg hkl hA HG
                go_wp2_with fail
                refine (cv _).mono ?_
                rintro e W5 ⟨rfl, rfl⟩
                go_wp2_with (first | (refine wpList_store_pv0 rfl rfl _ _ rfl p8 (by exact rfl) x (by exact rfl) _ _ HP.out.row ?_; intro W7 hr7 hG7))
                have HP2 := Lib.hid (HP.out.set hr7 hG7)
                clear hr7 hG7
                go_roundw
                case rel => exact ⟨k + 1, true, x, sb, by omega, by go_num, rfl, HP2, HX⟩
                case measure => simp [intOf]; omega
            · rw [decide_eq_false hnA] at q1
              rw [if_neg hnA] at hA
              clear hnA cv
              by_cases hnI : l[k].name = nmI
              · rw [decide_eq_true hnI] at q2
                rw [if_pos hnI] at hA
                clear hnI
                cases hH : l[k].has with
                | true =>
                  rw [hH] at g2
                  rw [hH, if_pos rfl] at hA
                  have HX : Hid (R = (⟨0, false⟩, 6)) := hA
                  generalize bs l[k].name = N at *
                  generalize bs l[k].value = V at *
                  clear hH hkl hA HG
                  go_wp2_with (first | (refine wpList_store_pv rfl rfl _ _ rfl p2 (by exact rfl) 0 false (by exact rfl) _ _ HP.out.res.row ?_; intro W9 hr9 hG9))
                  have hF := HP.out.res.final hG9
                  first | exact ret_pv 2 3 rfl p2 rfl _ _ hr9 _ rfl rfl (pol_ret HX.out hF) | (go_step3; exact ret_pv 2 3 rfl p2 rfl _ _ hr9 _ rfl rfl (pol_ret HX.out hF)) | (rw [Exit.noGoto_ret]; exact ret_pv 2 3 rfl p2 rfl _ _ hr9 _ rfl rfl (pol_ret HX.out hF))
                | false =>
                  rw [hH] at g2
                  rw [hH, if_neg (by decide)] at hA
                  have HX := Lib.hid hA
                  generalize bs l[k].name = N at *
                  generalize bs l[k].value = V at *
                  clear hH hkl hA HG
                  go_wp2_with (first | (refine wpList_store_pv1 rfl rfl _ _ rfl p8 (by exact rfl) true (by exact rfl) _ _ HP.out.row ?_; intro W7 hr7 hG7))
                  have HP2 := Lib.hid (HP.out.set hr7 hG7)
                  clear hr7 hG7
                  go_roundw
                  case rel => exact ⟨k + 1, fb, a, true, by omega, by go_num, rfl, HP2, HX⟩
                  case measure => simp [intOf]; omega
              · rw [decide_eq_false hnI] at q2
                rw [if_neg hnI] at hA
                have HX := Lib.hid hA
                generalize bs l[k].name = N at *
                generalize bs l[k].value = V at *
                generalize l[k].has = H at *
                clear hnI hkl hA HG
                go_wp2
                go_roundw
                case rel => exact ⟨k + 1, fb, a, sb, by omega, by go_num, rfl, HP, HX⟩
                case measure => simp [intOf]; omega
          · have hkn : (k : Int) = (n : Int) := by omega
            have hG := HG.out
            rw [List.drop_of_length_le (by rw [HL.out]; omega), polGo] at hG
            rw [hkn]
            clear hkn hlt i0 hkb hk HG
            clear k
            cases fb with
            | false =>
              have HX : Hid (R = (⟨0, false⟩, 18)) := hG
              clear hG
              go_wp2_with (first | (refine wpList_store_pv rfl rfl _ _ rfl p2 (by exact rfl) 0 false (by exact rfl) _ _ HP.out.res.row ?_; intro W9 hr9 hG9))
              have hF := HP.out.res.final hG9
              first | exact ret_pv 2 3 rfl p2 rfl _ _ hr9 _ rfl rfl (pol_ret HX.out hF) | (go_step3; exact ret_pv 2 3 rfl p2 rfl _ _ hr9 _ rfl rfl (pol_ret HX.out hF)) | (rw [Exit.noGoto_ret]; exact ret_pv 2 3 rfl p2 rfl _ _ hr9 _ rfl rfl (pol_ret HX.out hF))
            | true =>
              have HX : Hid (R = (⟨a, sb⟩, 0)) := hG
              clear hG
              go_wp2_with (first
                | (refine wpList_load_pv (by rfl) _ rfl p8 (by exact rfl) _ _ HP.out.row ?_)
                | (refine wpList_store_pv rfl rfl _ _ rfl p2 (by exact rfl) a sb (by exact rfl) _ _ HP.out.res.row ?_; intro W9 hr9 hG9))
              have hF := HP.out.res.final hG9
              first | exact ret_pv 2 3 rfl p2 rfl _ _ hr9 _ rfl rfl (pol_ret HX.out hF) | (go_step3; exact ret_pv 2 3 rfl p2 rfl _ _ hr9 _ rfl rfl (pol_ret HX.out hF)) | (rw [Exit.noGoto_ret]; exact ret_pv 2 3 rfl p2 rfl _ _ hr9 _ rfl rfl (pol_ret HX.out hF))
  · rw [if_neg hr] at hR0
    have HX := Lib.hid hR0
    have e1 : (r == 0) = false := by simp [hr]
    have e2 : (r != 0) = true := by simp [hr]
    clear hR0 hr hS
    go_enter Try.func9, Try.ntmps9
    go_wp2_with (first | (refine wpList_alloc_arr _ rfl 2 rfl _ rfl #[.int .i64 0, .bool false] zeroPv ?_; intro W2 p2 hp2 hq2 hR2 hG2))
    have hE := RSt19.start hp2 hR2 hG2
    clear hp2 hq2 hR2 hG2
    refine (c1 _).mono ?_
    rintro e w1 ⟨A, c, rfl, hc, _, hh, hb⟩
    have hE := hE.call hb
    clear hb hh
    go_wp2_with (first | (refine wpList_store_pv rfl rfl _ _ rfl p2 (by exact rfl) 0 false (by exact rfl) _ _ hE.row ?_; intro W9 hr9 hG9))
    have hF := hE.final hG9
    exact ret_pv 2 3 rfl p2 rfl _ _ hr9 _ rfl rfl (pol_ret HX.out hF)

end Go.Proofs.Ytpopkeidpohdiaa
