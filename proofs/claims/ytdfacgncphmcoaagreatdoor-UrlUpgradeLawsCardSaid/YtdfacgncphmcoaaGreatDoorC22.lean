/-
The cuts of a URL: cutAuthority, cutUser, cutPort.
-/
import Derived.Test.YtdfacgncphmcoaaGreatDoorC17
import Derived.Test.YtdfacgncphmcoaaGreatDoorC05
import Derived.Test.YtdfacgncphmcoaaGreatDoorC15
import Derived.Test.YtdfacgncphmcoaaGreatDoorC21
import Derived.Lib.LastIndexByte
namespace Go.Proofs.YtdfacgncphmcoaaGreatDoor
section
open Go.RowKit Go.Shelf
theorem ext_l {s : ByteArray} {a b : List UInt8} (h : ls s = a ++ b) : s.extract 0 a.length = bs a := by
  rw [← bs_ls (s.extract 0 a.length), ls_extract, h]
  simp
theorem ext_r {s : ByteArray} {a b : List UInt8} (h : ls s = a ++ b) : s.extract a.length s.size = bs b := by
  rw [← bs_ls (s.extract a.length s.size), ls_from9, h]
  simp
theorem ends_end (b : UInt8) : ([47, 63, 35] : List UInt8).contains b = endA b := by
  unfold endA
  simp only [List.contains_cons, List.contains_nil, Bool.or_false, Bool.or_assoc]
theorem indexAny_end : ∀ l : List UInt8, (Lib.indexAny l [47, 63, 35] = -1 ∧ befL endA l = l ∧ fromL endA l = []) ∨ ∃ c r, fromL endA l = c :: r ∧ Lib.indexAny l [47, 63, 35] = ((befL endA l).length : Int)
  | [] => .inl ⟨rfl, rfl, rfl⟩
  | b :: l => by
    unfold Lib.indexAny
    rw [ends_end]
    by_cases hb : endA b = true
    · right
      refine ⟨b, l, ?_, ?_⟩
      · unfold fromL
        rw [List.dropWhile_cons, if_neg (by simp [hb])]
      · have e : befL endA (b :: l) = [] := by
          unfold befL
          rw [List.takeWhile_cons, if_neg (by simp [hb])]
        rw [e, if_pos hb]
        rfl
    · have e1 : befL endA (b :: l) = b :: befL endA l := by
        unfold befL
        rw [List.takeWhile_cons, if_pos (by simp [hb])]
      have e2 : fromL endA (b :: l) = fromL endA l := by
        unfold fromL
        rw [List.dropWhile_cons, if_pos (by simp [hb])]
      rw [e1, e2, if_neg hb]
      rcases indexAny_end l with ⟨h1, h2, h3⟩ | ⟨c, r, h1, h2⟩
      · left
        refine ⟨?_, by rw [h2], h3⟩
        rw [h1]; rfl
      · right
        refine ⟨c, r, h1, ?_⟩
        rw [h2]
        have h4 : (((befL endA l).length : Int) == -1) = false := by
          rw [beq_eq_false_iff_ne]
          omega
        rw [h4]
        simp
theorem cutA_any (s : ByteArray) (w : World) (hs : s.size ≤ 1000000000) : Calls Tryz.prog 83 #[.string s] w fun e w' => e = .returned (.tuple #[.string (bs (befL endA (ls s))), .string (bs (fromL endA (ls s)))]) ∧ Below w.heap.size w w' := by
  have ci := ia_any s w hs
  have hbf := bef_from endA (ls s)
  rcases indexAny_end (ls s) with ⟨h1, h2, h3⟩ | ⟨c, r, h1, h2⟩
  · rw [h1] at ci
    rw [h2, h3, bs_ls]
    clear h1 h2 h3 hbf
    go_enter Tryz.func83, Tryz.ntmps83
    go_wp2_with (go_at_call 106; refine ci.mono ?_; rintro e w1 ⟨rfl, hb⟩)
    go_quiet (fail)
    go_wp2
    go_ret2
    exact ⟨rfl, hb.trans (below_drewN _ _ |>.mono hb.size)⟩
  · rw [h2] at ci
    have f1 := ext_l hbf.symm
    have f2 := ext_r hbf.symm
    have hz : (befL endA (ls s)).length ≤ s.size := by
      have := congrArg List.length hbf
      rw [List.length_append, ls_length] at this
      omega
    rw [← f1, ← f2]
    generalize (befL endA (ls s)).length = k at *
    clear h1 h2 hbf f1 f2
    have g1 : (k : Int) ≤ (s.size : Int) := by omega
    go_enter Tryz.func83, Tryz.ntmps83
    go_wp2_with (go_at_call 106; refine ci.mono ?_; rintro e w1 ⟨rfl, hb⟩)
    go_quiet (fail)
    go_wp2
    go_ret2
    exact ⟨rfl, hb.trans (below_drewN _ _ |>.mono hb.size)⟩
theorem cutU_any (s : ByteArray) (w : World) (hs : s.size ≤ 1000000000) : Calls Tryz.prog 84 #[.string s] w fun e w' => e = .returned (.tuple #[.string (bs (userL (ls s))), .string (bs (addrL (ls s)))]) ∧ Below w.heap.size w w' := by
  have ci := fun W => Any.strings_LastIndex_one Tryz.lays148 s ⟨#[64]⟩ rfl (by omega) W
  obtain ⟨k, hk1, hk2⟩ : ∃ k : Int, Lib.lastIndexByte s (((⟨#[64]⟩ : ByteArray)[0]'(by decide)).toNat : Int) = k ∧ ((k = -1 ∧ userL (ls s) = [] ∧ addrL (ls s) = ls s) ∨ ∃ i : Nat, k = i ∧ i + 1 ≤ s.size ∧ s.extract 0 i = bs (userL (ls s)) ∧ s.extract (i + 1) s.size = bs (addrL (ls s))) := by
    refine ⟨_, rfl, ?_⟩
    have hget : ∀ j (hj : j < s.size), s.data[j]! = (ls s)[j]'(by rw [ls_length]; exact hj) := by
      intro j hj
      rw [getElem!_pos s.data j (by simpa using hj)]
      simp [ls]
    have h64 : (((⟨#[64]⟩ : ByteArray)[0]'(by decide)).toNat : Int) = 64 := rfl
    rw [h64]
    rcases Lib.lastIndexByte_spec s 64 with ⟨h1, h2⟩ | ⟨i, h1, h2, h3, h4⟩
    · left
      have hm : 64 ∉ ls s := by
        intro hm
        obtain ⟨j, hj, hj2⟩ := List.getElem_of_mem hm
        have hj3 : j < s.size := by rw [← ls_length]; exact hj
        have := h2 j hj3
        rw [hget j hj3, hj2] at this
        exact this rfl
      exact ⟨h1, at_none hm⟩
    · right
      refine ⟨i, h2, h1, ?_⟩
      have hi : i < (ls s).length := by rw [ls_length]; exact h1
      have e1 : (ls s)[i]'hi = 64 := by
        rw [hget i h1] at h3
        exact UInt8.toNat_inj.1 (by rw [show (64 : UInt8).toNat = 64 from rfl]; omega)
      have e2 : ls s = (ls s).take i ++ 64 :: (ls s).drop (i + 1) := by
        rw [← e1, List.getElem_cons_drop, List.take_append_drop]
      have e3 : 64 ∉ (ls s).drop (i + 1) := by
        intro hm
        obtain ⟨j, hj, hj2⟩ := List.getElem_of_mem hm
        rw [List.length_drop, ls_length] at hj
        rw [List.getElem_drop] at hj2
        have := h4 (i + 1 + j) (by omega) (by omega)
        rw [hget _ (by omega), hj2] at this
        exact this rfl
      obtain ⟨u1, u2⟩ := at_some (u := (ls s).take i) e3
      rw [← e2] at u1 u2
      rw [u1, u2]
      refine ⟨?_, ?_⟩
      · have := ext_l (s := s) (a := (ls s).take i) (b := 64 :: (ls s).drop (i + 1)) e2
        rwa [List.length_take, Nat.min_eq_left (by omega)] at this
      · rw [← ls_from9, bs_ls]
  simp only [hk1] at ci
  clear hk1
  rcases hk2 with ⟨rfl, h1, h2⟩ | ⟨i, rfl, h1, h2, h3⟩
  · rw [h1, h2, bs_ls]
    clear h1 h2
    go_enter Tryz.func84, Tryz.ntmps84
    go_wp2_with (go_at_call 107; refine (ci _).mono ?_; rintro e w1 ⟨rfl, rfl⟩)
    go_quiet (fail)
    go_wp2
    go_ret2
    refine ⟨?_, below_drewN _ _⟩
    have e0 : s.extract 0 (max (-1 : Int) 0).toNat = bs [] := by
      rw [show (max (-1 : Int) 0).toNat = 0 from rfl, ← bs_ls (s.extract 0 0), ls_extract]
      simp
    show Ending.returned (.tuple #[.string (s.extract 0 (max (-1 : Int) 0).toNat), .string s]) = _
    rw [e0]
  · rw [← h2, ← h3]
    clear h2 h3
    have g1 : (i : Int) + 1 ≤ (s.size : Int) := by omega
    go_enter Tryz.func84, Tryz.ntmps84
    go_wp2_with (go_at_call 107; refine (ci _).mono ?_; rintro e w1 ⟨rfl, rfl⟩)
    go_quiet (fail)
    go_wp2
    go_ret2
    exact ⟨rfl, below_drewN _ _⟩
theorem hpre1_any (s : ByteArray) (c : UInt8) (w : World) : Calls Tryz.prog 88 #[.string s, .string ⟨#[c]⟩] w fun e w' => e = .returned (.bool (decide ((ls s).head? = some c))) ∧ w' = w := by
  have h := Any.strings_HasPrefix Tryz.lays99 s ⟨#[c]⟩ w
  have e : Lib.hasPrefix s.data.toList (⟨#[c]⟩ : ByteArray).data.toList = decide ((ls s).head? = some c) := pre_one c (ls s)
  rw [e] at h
  exact h
theorem cpre1_any (s : ByteArray) (c : UInt8) (w : World) : Calls Tryz.prog 82 #[.string s, .string ⟨#[c]⟩] w fun e w' =>
    e = .returned (.tuple #[.string (if (ls s).head? = some c then bs ((ls s).drop 1) else s), .bool (decide ((ls s).head? = some c))]) ∧ w' = w := by
  have h := Any.strings_CutPrefix Tryz.lays103 s ⟨#[c]⟩ w
  have e : Lib.hasPrefix s.data.toList (⟨#[c]⟩ : ByteArray).data.toList = decide ((ls s).head? = some c) := pre_one c (ls s)
  unfold Lib.trimPrefix at h
  rw [e] at h
  refine h.mono ?_
  rintro r w' ⟨rfl, rfl⟩
  refine ⟨?_, rfl⟩
  by_cases h : (ls s).head? = some c
  · rw [decide_eq_true h, if_pos rfl, if_pos h]
    rfl
  · rw [decide_eq_false h, if_neg (by simp), if_neg h]
def afterB (M : List UInt8) : List UInt8 → Option (List UInt8 × List UInt8)
  | [] => some (M, [])
  | c :: d => if c = 58 then some (M, d) else none
/-- What cutPort answers. -/
def PortPost (s : ByteArray) (w : World) (e : Ending) (w' : World) : Prop :=
  (∃ x y : ByteArray, ∃ ok : Bool, e = .returned (.tuple #[.string x, .string y, .bool ok]) ∧ cutP (ls s) = (if ok = true then some (ls x, ls y) else none)) ∧ Below w.heap.size w w'
theorem cutPo_any (s : ByteArray) (w : World) (hs : s.size ≤ 1000000000) : Calls Tryz.prog 85 #[.string s] w (PortPost s w) := by
  have c0 := fun W => hpre1_any s 91 W
  by_cases hh : (ls s).head? = some 91
  · rw [decide_eq_true hh] at c0
    have ci := fun W => ib_any s 93 W
    have hp : cutP (ls s) = cutB (ls s) := by unfold cutP; rw [if_pos hh]
    clear hh
    have hbf := bef_from (isB 93) (ls s)
    rcases indexByte_cut 93 (ls s) with ⟨h1, h2, h3⟩ | ⟨r, h1, h2⟩
    · simp only [h1] at ci
      have HP : Hid (cutP (ls s) = none) := Lib.hid (hp.trans (by unfold cutB; rw [h3]))
      clear h1 h2 h3 hp hbf
      go_enter Tryz.func85, Tryz.ntmps85
      go_wp2_with (first | (go_at_call 88; refine (c0 _).mono ?_; rintro e w1 ⟨rfl, rfl⟩) | (go_at_call 108; refine (ci _).mono ?_; rintro e w1 ⟨rfl, rfl⟩))
      go_ret3
      exact ⟨⟨_, _, false, rfl, HP.out⟩, Below.refl _ _⟩
    · simp only [h2] at ci
      have f1 := ext_l (s := s) (a := befL (isB 93) (ls s) ++ [93]) (b := r) (by rw [List.append_assoc, List.singleton_append, ← h1, hbf])
      have f2 := ext_r (s := s) (a := befL (isB 93) (ls s) ++ [93]) (b := r) (by rw [List.append_assoc, List.singleton_append, ← h1, hbf])
      have hz : (befL (isB 93) (ls s)).length + 1 ≤ s.size := by
        have := congrArg List.length hbf
        rw [h1, List.length_append, List.length_cons, ls_length] at this
        omega
      rw [List.length_append, List.length_singleton] at f1 f2
      have hq : cutB (ls s) = afterB (befL (isB 93) (ls s) ++ [93]) r := by
        unfold cutB
        rw [h1]
        cases r <;> rfl
      have hp2 := hp.trans hq
      clear hp
      generalize befL (isB 93) (ls s) ++ [93] = M at *
      generalize (befL (isB 93) (ls s)).length = k at *
      clear h1 h2 hq hbf
      have g1 : (k : Int) + 1 ≤ (s.size : Int) := by omega
      have g0 : ((k : Int) + 1 == 0) = false := by rw [beq_eq_false_iff_ne]; omega
      cases r with
      | nil =>
        have he : (bs ([] : List UInt8)).toList.isEmpty = true := by rw [Lib.toList_data]; rfl
        have HF := Lib.hid f1
        have H2 := Lib.hid f2
        have HP : Hid (cutP (ls s) = some (M, [])) := Lib.hid hp2
        clear f1 f2 hp2
        go_enter Tryz.func85, Tryz.ntmps85
        go_wp2_with (first | (go_at_call 88; refine (c0 _).mono ?_; rintro e w1 ⟨rfl, rfl⟩) | (go_at_call 108; refine (ci _).mono ?_; rintro e w1 ⟨rfl, rfl⟩))
        go_quiet (fail)
        rw [H2.out]
        go_wp2
        go_ret3
        exact ⟨⟨_, _, true, rfl, by rw [HP.out, HF.out]; rfl⟩, below_drewN _ _⟩
      | cons c d =>
        have he : (bs (c :: d)).toList.isEmpty = false := by rw [Lib.toList_data]; rfl
        have c1 := fun W => cpre1_any (bs (c :: d)) 58 W
        rw [ls_bs, List.head?_cons, List.drop_succ_cons, List.drop_zero] at c1
        have hd : (decide (some c = some (58 : UInt8))) = decide (c = 58) := by simp
        rw [hd] at c1
        obtain ⟨Y, hY⟩ : ∃ Y, Y = (if some c = some (58 : UInt8) then bs d else bs (c :: d)) := ⟨_, rfl⟩
        rw [← hY] at c1
        obtain ⟨q, hq⟩ : ∃ q, q = decide (c = 58) := ⟨_, rfl⟩
        rw [← hq] at c1
        have hfin : (if c = 58 then some (M, d) else none) = (if q = true then some (ls (s.extract 0 (k + 1)), ls Y) else none) := by
          rw [hY, hq, f1]
          by_cases h : c = 58
          · subst h; rfl
          · rw [if_neg h, decide_eq_false h, if_neg (by simp)]
        have HP : Hid (cutP (ls s) = (if q = true then some (ls (s.extract 0 (k + 1)), ls Y) else none)) := Lib.hid (hp2.trans hfin)
        obtain ⟨R, hR⟩ : ∃ R, R = bs (c :: d) := ⟨_, rfl⟩
        rw [← hR] at c1 he f2
        have H2 := Lib.hid f2
        clear f1 f2 hfin hY hq hR hd hp2
        cases q <;> (
          go_enter Tryz.func85, Tryz.ntmps85
          go_wp2_with (first | (go_at_call 88; refine (c0 _).mono ?_; rintro e w1 ⟨rfl, rfl⟩) | (go_at_call 108; refine (ci _).mono ?_; rintro e w1 ⟨rfl, rfl⟩))
          go_quiet (fail)
          rw [H2.out]
          go_wp2_with (go_at_call 82; refine (c1 _).mono ?_; rintro e w1 ⟨rfl, rfl⟩)
          go_ret3
          exact ⟨⟨_, _, _, rfl, HP.out⟩, below_drewN _ _⟩)
  · have cc := scut_any s 58 w hs
    unfold CutPost at cc
    have hp : cutP (ls s) = some (ls (bs (befL (isB 58) (ls s))), ls (bs ((fromL (isB 58) (ls s)).drop 1))) := by
      unfold cutP
      rw [if_neg hh]
      rfl
    rw [decide_eq_false hh] at c0
    generalize bs (befL (isB 58) (ls s)) = X at *
    generalize bs ((fromL (isB 58) (ls s)).drop 1) = Y at *
    generalize (ls s).any (isB 58) = q at *
    have HP := Lib.hid hp
    clear hp hh
    go_enter Tryz.func85, Tryz.ntmps85
    go_wp2_with (first | (go_at_call 88; refine (c0 _).mono ?_; rintro e w1 ⟨rfl, rfl⟩) | (go_at_call 58; refine cc.mono ?_; rintro e w1 ⟨rfl, hb⟩))
    go_ret3
    exact ⟨⟨X, Y, true, rfl, HP.out⟩, hb⟩
end

end Go.Proofs.YtdfacgncphmcoaaGreatDoor
