/-
Contract of package punycode's addNumber.
Contracts of isASCII, cutBasic and smallestFrom of package punycode.
-/
import Derived.Test.YthoolifdmemceaaGreatDoorB18
import Derived.Test.YthoolifdmemceaaGreatDoorB13
import Derived.Test.YthoolifdmemceaaGreatDoorShelf
import Derived.Lib.LastIndexByte
import Derived.BigQuiet
namespace Go.Proofs.YthoolifdmemceaaGreatDoor
section
open Go.RowKit

/-- What addNumber answers. -/
def addE : Except Nat (Nat × List UInt8) → Nat
  | .error c => c
  | .ok _ => 0
def addI : Except Nat (Nat × List UInt8) → Nat
  | .error _ => 0
  | .ok (j, _) => j
def addS (n : Nat) : Except Nat (Nat × List UInt8) → Nat
  | .error _ => 0
  | .ok (_, r) => n - r.length
theorem add_err {x : Except Nat (Nat × List UInt8)} {c n : Nat} (h : x = .error c) : addE x = c ∧ addI x = 0 ∧ addS n x = 0 := by subst h; exact ⟨rfl, rfl, rfl⟩
theorem add_ok {x : Except Nat (Nat × List UInt8)} {j n : Nat} {r : List UInt8} (h : x = .ok (j, r)) : addE x = 0 ∧ addI x = j ∧ addS n x = n - r.length := by subst h; exact ⟨rfl, rfl, rfl⟩
theorem ret_three {a a' b b' c c' : Nat} (h1 : a = a') (h2 : b = b') (h3 : c = c') : Ending.returned (.tuple #[.int .i64 (a : Int), .int .i64 (b : Int), .int .i64 (c : Int)]) = .returned (.tuple #[.int .i64 (a' : Int), .int .i64 (b' : Int), .int .i64 (c' : Int)]) := by rw [h1, h2, h3]

set_option maxRecDepth 20000 in
set_option maxHeartbeats 4000000 in
theorem addN_any (B : Nat) (w : World) (s : ByteArray) (I bias bk bb : Nat) (hc : Clo w B bk bb 0 bias) (hB : B ≤ w.heap.size) (hI : I ≤ 1000000) (hbi : bias ≤ 1000) (hs : s.size ≤ 1000000) :
    Calls Tryz.prog 87 #[.int .i64 (I : Int), .string s, .func (.func 99) #[] #[.pointer (some ⟨bk, 0, none⟩), .pointer (some ⟨bb, 0, none⟩)]] w fun e w' =>
      e = .returned (.tuple #[.int .i64 (addI (rdNum (ls s) bias 0 1 I) : Nat), .int .i64 (addS s.size (rdNum (ls s) bias 0 1 I) : Nat), .int .i64 (addE (rdNum (ls s) bias 0 1 I) : Nat)]) ∧ Below B w w' := by
  obtain ⟨R, hR⟩ : ∃ R, R = rdNum (ls s) bias 0 1 I := ⟨_, rfl⟩
  rw [← hR]
  have HR := Lib.hid hR
  have HC0 := Lib.hid hc
  clear hR hc
  go_enter Tryz.func87, Tryz.ntmps87
  go_wp2_with fail
  go_loopw [0, 9, 15] (fun iv wv av wr => ∃ (a i' w' : Nat), iv = .int .i64 i' ∧ wv = .int .i64 w' ∧ av = .int .i64 a ∧ a ≤ s.size ∧ i' ≤ 1099511627776 ∧ w' ≤ 1099511627776 ∧ Hid (R = rdNum ((ls s).drop a) bias a w' i') ∧ Hid (Clo wr B bk bb a bias) ∧ Below B w wr) (fun _ _ av _ => s.size - (intOf av).toNat)
  case atStart => exact ⟨0, I, 1, rfl, rfl, rfl, Nat.zero_le _, by omega, by omega, HR, HC0, Below.refl _ _⟩
  case round =>
    obtain ⟨a', i', w', rfl, rfl, rfl, ha', hi', hw', HRD, HC, hb⟩ := hrel
    by_cases hlt5 : a' < s.size
    · have hged : decide ((a' : Int) < (s.size : Int)) = true := decide_eq_true (by omega)
      have hgeN : decide (a' < s.size) = true := decide_eq_true hlt5
      have hdr := drop_ls_cons s a' hlt5
      have cV := digOf_any s[a']
      cases hpv : pval s[a'] with
      | none =>
        rw [dvN_none hpv] at cV
        obtain ⟨e1, e2, e3⟩ := add_err (n := s.size) (show R = .error 4 by rw [HRD.out, hdr, rdNum, hpv])
        have HE := Lib.hid e1
        have HE2 := Lib.hid e2
        have HE3 := Lib.hid e3
        clear hdr hpv e1 e2 e3
        go_wp2_with (go_at_call 98; refine (cV _).mono ?_; rintro e w' ⟨rfl, rfl⟩)
        go_ret3
        exact ⟨ret_three HE2.out.symm HE3.out.symm HE.out.symm, hb⟩
      | some d =>
        rw [dvN_some hpv] at cV
        have hd36 := pval_lt hpv
        have hdn : ((d : Int) == 36) = false := by rw [beq_eq_false_iff_ne]; omega
        have hdnN : (d == 36) = false := by rw [beq_eq_false_iff_ne]; omega
        have hrd : R = if 1099511627776 < i' + d * w' then .error 19 else if d < thr a' bias then .ok (i' + d * w', (ls s).drop (a' + 1)) else if 1099511627776 < w' * (36 - thr a' bias) then .error 19 else rdNum ((ls s).drop (a' + 1)) bias (a' + 1) (w' * (36 - thr a' bias)) (i' + d * w') := by rw [HRD.out, hdr, rdNum, hpv]
        have hdw : (d : Int) * (w' : Int) = ((d * w' : Nat) : Int) := by simp
        have hdwb : d * w' ≤ 35 * 1099511627776 := Nat.mul_le_mul (by omega) hw'
        obtain ⟨i2, hi2⟩ : ∃ i2, i2 = i' + d * w' := ⟨_, rfl⟩
        rw [← hi2] at hrd
        have hdw0 : 0 ≤ (d : Int) * (w' : Int) := by omega
        have hdw1 : (d : Int) * (w' : Int) ≤ 38482906972160 := by omega
        have hi2i : (i' : Int) + (d : Int) * (w' : Int) = (i2 : Int) := by omega
        have hi2b : i2 ≤ 39582418599936 := by omega
        have ht := thr_range a' bias
        have cT := clo_call wr B bk bb a' bias HC.out (by omega) (by omega)
        have HRD2 := Lib.hid hrd
        have HLK := Lib.hid HC.out.lk
        clear hdr hpv hdw hdwb hi2 hrd
        by_cases hov : 1099511627776 < i2
        · have hovd : decide ((1099511627776 : Int) < (i2 : Int)) = true := decide_eq_true (by omega)
          have hovN : decide (1099511627776 < i2) = true := decide_eq_true hov
          obtain ⟨e1, e2, e3⟩ := add_err (n := s.size) (show R = .error 19 by rw [HRD2.out, if_pos hov])
          have HE := Lib.hid e1
          have HE2 := Lib.hid e2
          have HE3 := Lib.hid e3
          clear e1 e2 e3
          go_wp2_with (go_at_call 98; refine (cV _).mono ?_; rintro e w' ⟨rfl, rfl⟩)
          go_ret3
          exact ⟨ret_three HE2.out.symm HE3.out.symm HE.out.symm, hb⟩
        · have hovd : decide ((1099511627776 : Int) < (i2 : Int)) = false := decide_eq_false (by omega)
          have hovN : decide (1099511627776 < i2) = false := decide_eq_false hov
          obtain ⟨t, hte⟩ : ∃ t, t = thr a' bias := ⟨_, rfl⟩
          rw [← hte] at HRD2 ht cT
          clear hte
          by_cases hdt : d < t
          · have hdtd : decide ((d : Int) < (t : Int)) = true := decide_eq_true (by omega)
            have hdtN : decide (d < t) = true := decide_eq_true hdt
            obtain ⟨e1, e2, e3⟩ := add_ok (n := s.size) (show R = .ok (i2, (ls s).drop (a' + 1)) by rw [HRD2.out, if_neg hov, if_pos hdt])
            rw [List.length_drop, ls_length, show s.size - (s.size - (a' + 1)) = a' + 1 by omega] at e3
            have HE := Lib.hid e1
            have HE2 := Lib.hid e2
            have HE3 := Lib.hid e3
            clear e1 e2 e3
            go_wp2_with (go_at_call 98; refine (cV _).mono ?_; rintro e w' ⟨rfl, rfl⟩)
            refine cT.mono ?_
            rintro e w1 ⟨rfl, hc1, hg1⟩
            have hb1 := hb.grown hg1 (Nat.le_trans hB hb.size) (fun k hk => by injection hk with hk; rw [← hk]; exact HLK.out)
            clear hc1 hg1 hb
            go_wp2
            go_ret3
            exact ⟨ret_three HE2.out.symm HE3.out.symm HE.out.symm, hb1⟩
          · have hdtd : decide ((d : Int) < (t : Int)) = false := decide_eq_false (by omega)
            have hdtN : decide (d < t) = false := decide_eq_false hdt
            have hwt : (w' : Int) * (36 - (t : Int)) = ((w' * (36 - t) : Nat) : Int) := by rw [Int.natCast_mul, Int.natCast_sub (by omega)]; rfl
            have hwtb : w' * (36 - t) ≤ 1099511627776 * 35 := Nat.mul_le_mul hw' (by omega)
            obtain ⟨w2, hw2⟩ : ∃ w2, w2 = w' * (36 - t) := ⟨_, rfl⟩
            rw [← hw2] at hwt hwtb
            have hwt0 : 0 ≤ (w' : Int) * (36 - (t : Int)) := by omega
            have hwt1 : (w' : Int) * (36 - (t : Int)) ≤ 38482906972160 := by omega
            have HRD3 : Hid (R = if 1099511627776 < w2 then .error 19 else rdNum ((ls s).drop (a' + 1)) bias (a' + 1) w2 i2) := by
              show _ = _
              rw [HRD2.out, if_neg hov, if_neg hdt, ← hw2]
            clear hw2 HRD2
            by_cases hwo : 1099511627776 < w2
            · have hwod : decide ((1099511627776 : Int) < (w2 : Int)) = true := decide_eq_true (by omega)
              have hwoN : decide (1099511627776 < w2) = true := decide_eq_true hwo
              obtain ⟨e1, e2, e3⟩ := add_err (n := s.size) (show R = .error 19 by rw [HRD3.out, if_pos hwo])
              have HE := Lib.hid e1
              have HE2 := Lib.hid e2
              have HE3 := Lib.hid e3
              clear e1 e2 e3
              go_wp2_with (go_at_call 98; refine (cV _).mono ?_; rintro e w' ⟨rfl, rfl⟩)
              refine cT.mono ?_
              rintro e w1 ⟨rfl, hc1, hg1⟩
              have hb1 := hb.grown hg1 (Nat.le_trans hB hb.size) (fun k hk => by injection hk with hk; rw [← hk]; exact HLK.out)
              clear hc1 hg1 hb
              go_wp2
              go_ret3
              exact ⟨ret_three HE2.out.symm HE3.out.symm HE.out.symm, hb1⟩
            · have hwod : decide ((1099511627776 : Int) < (w2 : Int)) = false := decide_eq_false (by omega)
              have hwoN : decide (1099511627776 < w2) = false := decide_eq_false hwo
              have HRD4 : Hid (R = rdNum ((ls s).drop (a' + 1)) bias (a' + 1) w2 i2) := by
                show _ = _
                rw [HRD3.out, if_neg hwo]
              go_wp2_with (go_at_call 98; refine (cV _).mono ?_; rintro e w' ⟨rfl, rfl⟩)
              refine cT.mono ?_
              rintro e w1 ⟨rfl, hc1, hg1⟩
              have hb1 := hb.grown hg1 (Nat.le_trans hB hb.size) (fun k hk => by injection hk with hk; rw [← hk]; exact HLK.out)
              have HC1 := Lib.hid hc1
              clear hc1 hg1 hb
              go_wp2
              go_roundw
              case rel => exact ⟨a' + 1, i2, w2, by go_num, by go_num, by go_num, by omega, by omega, by omega, HRD4, HC1, hb1⟩
              case measure => simp [intOf]; omega
    · obtain rfl : a' = s.size := by omega
      have hged : decide ((s.size : Int) < (s.size : Int)) = false := by simp
      obtain ⟨e1, e2, e3⟩ := add_err (n := s.size) (show R = .error 4 by rw [HRD.out, drop_ls_all, rdNum])
      have HE := Lib.hid e1
      have HE2 := Lib.hid e2
      have HE3 := Lib.hid e3
      clear e1 e2 e3
      go_wp2
      go_ret3
      exact ⟨ret_three HE2.out.symm HE3.out.symm HE.out.symm, hb⟩
end

section
open Go.RowKit

theorem isAscii_any (s : ByteArray) (hs : s.size ≤ 1000000000) (w : World) :
    Calls Tryz.prog 85 #[.string s] w fun e w' => e = .returned (.bool (!(ls s).any (fun b => decide (128 ≤ b.toNat)))) ∧ w = w' := by
  obtain ⟨R, hR⟩ : ∃ R, R = (ls s).any (fun b => decide (128 ≤ b.toNat)) := ⟨_, rfl⟩
  rw [← hR]
  have HR := Lib.hid hR
  clear hR
  go_enter Tryz.func85, Tryz.ntmps85
  go_wp2
  go_loop [6] (fun i => ∃ k : Nat, k ≤ s.size ∧ i = .int .i64 k ∧ Hid (R = ((ls s).drop k).any (fun b => decide (128 ≤ b.toNat)))) (fun i => s.size - (intOf i).toNat)
  case atStart => exact ⟨0, Nat.zero_le _, rfl, HR⟩
  case round =>
    obtain ⟨k, hk, rfl, HK⟩ := hrel
    by_cases hlt : k < s.size
    · have hdr := drop_ls_cons s k hlt
      have hlt2 : decide ((k : Int) < (s.size : Int)) = true := decide_eq_true (by omega)
      by_cases h128 : 128 ≤ s[k].toNat
      · have hd : decide ((128 : Int) ≤ (s[k].toNat : Int)) = true := decide_eq_true (by omega)
        have hdN : decide (128 ≤ s[k].toNat) = true := decide_eq_true h128
        have HE : Hid ((!R) = false) := by
          show _ = _
          rw [HK.out, hdr, List.any_cons, hdN, Bool.true_or]
          rfl
        clear hdr
        go_wp2
        go_ret
        exact ⟨ret_bool HE.out.symm, rfl⟩
      · have hd : decide ((128 : Int) ≤ (s[k].toNat : Int)) = false := decide_eq_false (by omega)
        have hdN : decide (128 ≤ s[k].toNat) = false := decide_eq_false h128
        have HK2 : Hid (R = ((ls s).drop (k + 1)).any (fun b => decide (128 ≤ b.toNat))) := by
          show _ = _
          rw [HK.out, hdr, List.any_cons, hdN, Bool.false_or]
        clear hdr
        go_wp2
        go_round
        case rel => exact ⟨k + 1, by omega, by go_num, HK2⟩
        case measure => simp [intOf]; omega
    · obtain rfl : k = s.size := by omega
      have hlt2 : decide ((s.size : Int) < (s.size : Int)) = false := by simp
      have HE : Hid ((!R) = true) := by
        show _ = _
        rw [HK.out, drop_ls_all]
        rfl
      go_wp2
      go_ret
      exact ⟨ret_bool HE.out.symm, rfl⟩

theorem cut_at (t : List UInt8) (i : Nat) (hi : i < t.length) (h : t[i] = 45) (hn : ∀ b ∈ t.drop (i + 1), b ≠ 45) : cutL t = i := by
  have e : t = t.take i ++ 45 :: t.drop (i + 1) := by
    rw [← h, List.getElem_cons_drop, List.take_append_drop]
  unfold cutL
  rw [e, cutGo_append, cutGo, if_pos rfl, cutGo_no _ _ _ hn, List.length_take, Nat.zero_add]
  omega
theorem last_cutL (s : ByteArray) : (Lib.lastIndexByte s 45 = -1 ∧ cutL (ls s) = 0) ∨ (Lib.lastIndexByte s 45 = (cutL (ls s) : Int) ∧ cutL (ls s) < s.size) := by
  have hg : ∀ j (hj : j < s.size), ((s.data[j]!).toNat : Int) = 45 ↔ (ls s)[j]'(by rw [ls_length]; exact hj) = 45 := by
    intro j hj
    have hj' : j < s.data.size := hj
    have e : s.data[j]! = (ls s)[j]'(by rw [ls_length]; exact hj) := by
      rw [getElem!_pos s.data j hj']
      rfl
    rw [e]
    constructor
    · intro h
      exact UInt8.toNat_inj.1 (by rw [show (45 : UInt8).toNat = 45 from rfl]; omega)
    · intro h
      rw [h]
      rfl
  rcases Lib.lastIndexByte_spec s 45 with ⟨e, hn⟩ | ⟨i, hi, e, hc, hn⟩
  · refine .inl ⟨e, ?_⟩
    unfold cutL
    refine cutGo_no _ _ _ ?_
    intro c hc h46
    obtain ⟨j, hj, rfl⟩ := List.getElem_of_mem hc
    rw [ls_length] at hj
    exact hn j hj ((hg j hj).2 h46)
  · have hcut : cutL (ls s) = i := by
      refine cut_at _ i (by rw [ls_length]; exact hi) ((hg i hi).1 hc) ?_
      intro c hc h46
      obtain ⟨j, hj, rfl⟩ := List.getElem_of_mem hc
      rw [List.length_drop, ls_length] at hj
      rw [List.getElem_drop] at h46
      exact hn (i + 1 + j) (by omega) (by omega) ((hg _ (by omega)).2 h46)
    exact .inr ⟨by rw [hcut]; exact e, by rw [hcut]; exact hi⟩

theorem cutB_any (s : ByteArray) (hs : s.size ≤ 1000000000) (w : World) :
    Calls Tryz.prog 86 #[.string s] w fun e w' => (∃ k : Nat, e = .returned (.tuple #[.string (bs ((ls s).take (cutL (ls s)))), .string (bs (restL (ls s)))]) ∧ w' = w.drewN k) := by
  have c1 := fun W => Any.strings_LastIndexByte Tryz.lays149 s 45 (by omega) W
  obtain ⟨x, hx⟩ : ∃ x, x = Lib.lastIndexByte s 45 := ⟨_, rfl⟩
  have hcut := last_cutL s
  rw [← hx] at c1 hcut
  by_cases h0 : 0 < x
  · rcases hcut with ⟨h1, _⟩ | ⟨h1, h2⟩
    · omega
    · obtain ⟨C, hC⟩ : ∃ C, C = cutL (ls s) := ⟨_, rfl⟩
      rw [← hC] at h1 h2 ⊢
      subst h1
      have hr : restL (ls s) = (ls s).drop (C + 1) := by unfold restL; rw [← hC, if_pos (by omega)]
      rw [hr]
      have e1 : Hid (bs ((ls s).take C) = s.extract 0 C) := by
        show _ = _
        refine ls_inj ?_
        rw [ls_bs, ls_extract, List.drop_zero, Nat.sub_zero]
      have e2 : Hid (bs ((ls s).drop (C + 1)) = s.extract (C + 1) s.size) := by
        show _ = _
        refine ls_inj ?_
        rw [ls_bs, ls_extract]
        exact (List.take_of_length_le (by rw [List.length_drop, ls_length]; exact Nat.le_refl _)).symm
      have hd : decide ((0 : Int) < (C : Int)) = true := decide_eq_true (by omega)
      have hdN : decide (0 < C) = true := decide_eq_true (by omega)
      have hi0 : (0 : Int) ≤ (C : Int) := by omega
      have hi1 : (C : Int) ≤ (s.size : Int) := by omega
      have hi2 : (C : Int) + 1 ≤ (s.size : Int) := by omega
      rw [e1.out, e2.out]
      clear hx hC hr
      go_enter Tryz.func86, Tryz.ntmps86
      go_wp2_with fail
      refine (c1 _).mono ?_
      rintro e w' ⟨rfl, rfl⟩
      go_wp2_with fail
      go_quiet (fail)
      go_wp2
      go_ret2
      exact ⟨_, rfl, rfl⟩
  · have hC : cutL (ls s) = 0 := by
      rcases hcut with ⟨_, h2⟩ | ⟨h1, _⟩
      · exact h2
      · omega
    have hr : restL (ls s) = ls s := by unfold restL; rw [if_neg (by omega)]
    rw [hr, hC, List.take_zero, bs_ls]
    have hd : decide ((0 : Int) < x) = false := decide_eq_false h0
    clear hx hC hr hcut
    go_enter Tryz.func86, Tryz.ntmps86
    go_wp2_with fail
    refine (c1 _).mono ?_
    rintro e w' ⟨rfl, rfl⟩
    go_wp2_with fail
    go_ret2
    exact ⟨0, rfl, rfl⟩

/-- The least code point from n on, of whatever there is. -/
theorem small_any (n0 : Nat) (_hn : n0 ≤ 1114112) (P : List Nat) (hP : ∀ p ∈ P, ptN p = true) (hl : P.length ≤ 256) (A : Option Addr) (cap B : Nat) (w wr : World) (hA : Has w B A P.length (P.map iv)) (hb : Below w.heap.size w wr) (hB : B ≤ w.heap.size) :
    Calls Tryz.prog 93 #[.int .i64 (n0 : Int), .slice A P.length cap] wr fun e w' => e = .returned (.int .i64 (min 1114111 (leastG n0 P) : Nat)) ∧ wr = w' := by
  obtain ⟨R, hR⟩ : ∃ R, R = min 1114111 (leastG n0 P) := ⟨_, rfl⟩
  rw [← hR]
  have HR := Lib.hid hR
  have HP := Lib.hid hP
  have H := Lib.hid hA
  clear hR hP hA
  go_enter Tryz.func93, Tryz.ntmps93
  go_wp2
  go_loop [5, 10] (fun l i => ∃ (k v : Nat), k ≤ P.length ∧ i = .int .i64 k ∧ l = .int .i64 v ∧ v ≤ 1114111 ∧ Hid (min v (leastG n0 (P.drop k)) = R)) (fun _ i => P.length - (intOf i).toNat)
  case atStart => exact ⟨0, 1114111, Nat.zero_le _, rfl, rfl, Nat.le_refl _, Lib.hid HR.out.symm⟩
  case round =>
    obtain ⟨k, v, hk, rfl, rfl, hv, HV⟩ := hrel
    by_cases hlt2 : k < P.length
    · obtain ⟨b1, o1, rfl, l1, d1⟩ := H.out.2 (by omega)
      have g1 := cell_iv H.out hb hB k hlt2 hlt2
      have hple : P[k] ≤ 1114111 := ptN_le (HP.out _ (List.getElem_mem hlt2))
      have hdr : P.drop k = P[k] :: P.drop (k + 1) := List.drop_eq_getElem_cons hlt2
      obtain ⟨p, hp⟩ : ∃ p, p = P[k] := ⟨_, rfl⟩
      rw [← hp] at g1 hple hdr
      have hkd : decide ((k : Int) < (P.length : Int)) = true := decide_eq_true (by omega)
      clear d1 hp
      by_cases hge : n0 ≤ p
      · have hgd : decide ((n0 : Int) ≤ (p : Int)) = true := decide_eq_true (by omega)
        have hgN : decide (n0 ≤ p) = true := decide_eq_true hge
        obtain ⟨v2, hv2⟩ : ∃ v2 : Nat, v2 = min v p := ⟨_, rfl⟩
        have hmi : min (v : Int) (p : Int) = (v2 : Int) := by rw [hv2]; omega
        have hmin : ∀ (W : World) ts ty, (Builtin.min_ ts ty #[.int .i64 (v : Int), .int .i64 (p : Int)]).run Tryz.prog W = .ok (.int .i64 (v2 : Int)) W := fun W ts ty => min_two W ts ty _ _ _ hmi
        have HV2 : Hid (min v2 (leastG n0 (P.drop (k + 1))) = R) := by
          show _ = _
          have := HV.out
          rw [hdr, leastG, if_pos hge] at this
          rw [hv2, Nat.min_assoc]
          exact this
        have hv2b : v2 ≤ 1114111 := by rw [hv2]; exact Nat.le_trans (Nat.min_le_left _ _) hv
        clear hmi hv2 hdr hge
        go_wp2
        go_round
        case rel => exact ⟨k + 1, v2, by omega, by go_num, rfl, hv2b, HV2⟩
        case measure => simp [intOf]; omega
      · have hgd : decide ((n0 : Int) ≤ (p : Int)) = false := decide_eq_false (by omega)
        have hgN : decide (n0 ≤ p) = false := decide_eq_false hge
        have HV2 : Hid (min v (leastG n0 (P.drop (k + 1))) = R) := by
          show _ = _
          have := HV.out
          rw [hdr, leastG, if_neg hge] at this
          exact this
        clear hdr
        go_wp2
        go_round
        case rel => exact ⟨k + 1, v, by omega, by go_num, rfl, hv, HV2⟩
        case measure => simp [intOf]; omega
    · obtain rfl : k = P.length := by omega
      have hvm : Hid ((v : Int) = (R : Int)) := by
        show _ = _
        have := HV.out
        rw [List.drop_length, leastG, Nat.min_eq_left (by omega)] at this
        rw [this]
      have hkd : decide ((P.length : Int) < (P.length : Int)) = false := by simp
      go_wp2
      go_ret
      exact ⟨ret_int hvm.out, rfl⟩
end

end Go.Proofs.YthoolifdmemceaaGreatDoor
