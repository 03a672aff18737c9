/-
The reference's Parse of layer 14 (written by tools/gen-HrP.py).
-/
import Derived.Test.YtdfacgncphmcoaaGreatDoorB28
import Derived.Test.YtdfacgncphmcoaaGreatDoorB30
import Derived.Test.YtdfacgncphmcoaaGreatDoorB34
import Derived.Test.YtdfacgncphmcoaaGreatDoorB22
import Derived.Test.YtdfacgncphmcoaaGreatDoorB08
import Derived.Deep.Cut
import Derived.Deep.CutRange
namespace Go.Proofs.YtdfacgncphmcoaaGreatDoor
section
open Go.RowKit Go.Shelf
theorem join_snoc46 (x : List UInt8) : ∀ Q : List (List UInt8), joinL 46 (Q ++ [x]) = joinL 46 Q ++ ((if Q = [] then [] else [46]) ++ x)
  | [] => rfl
  | [a] => rfl
  | a :: b :: r => by
    have ih := join_snoc46 x (b :: r)
    rw [if_neg (by simp)] at ih ⊢
    rw [List.cons_append, joinL_cons 46 a _ (by simp), ih, joinL_cons 46 a (b :: r) (by simp)]
    simp
theorem split_part_lenG (c : UInt8) : ∀ (l cur : List UInt8), ∀ x ∈ splitG c l cur, x.length ≤ cur.length + l.length
  | [], cur, x, h => by
    rw [splitG] at h
    simp at h
    rw [h]
    simp
  | b :: l, cur, x, h => by
    rw [splitG] at h
    split at h
    · rcases List.mem_cons.1 h with rfl | h
      · simp
      · have := split_part_lenG c l [] x h
        simp at this ⊢
        omega
    · have := split_part_lenG c l (cur ++ [b]) x h
      simp at this ⊢
      omega
theorem split_part_len (c : UInt8) (l x : List UInt8) (h : x ∈ splitL c l) : x.length ≤ l.length := by
  have := split_part_lenG c l [] x h
  simpa using this
def nmB (p : List (List UInt8)) : List (List UInt8) := p.map fun x => (toA x).2
theorem names_ok : ∀ p : List (List UInt8), (∀ x ∈ p, (toA x).1 = 0) → namesGo p = (0, nmB p)
  | [], _ => rfl
  | x :: r, h => by
    have ih := names_ok r (fun y hy => h y (by simp [hy]))
    rw [namesGo, if_pos (h x (by simp)), ih]
    rfl
theorem names_bad : ∀ (p : List (List UInt8)) (x : List UInt8) (t : List (List UInt8)), (∀ y ∈ p, (toA y).1 = 0) → (toA x).1 ≠ 0 → namesGo (p ++ x :: t) = ((toA x).1, [])
  | [], x, t, _, hx => by rw [List.nil_append, namesGo, if_neg hx]
  | y :: r, x, t, h, hx => by
    have ih := names_bad r x t (fun z hz => h z (by simp [hz])) hx
    rw [List.cons_append, namesGo, if_pos (h y (by simp)), ih, if_neg hx]
theorem nmB_le {p : List (List UInt8)} (h : ∀ x ∈ p, (toA x).1 = 0) : ∀ y ∈ nmB p, y.length ≤ 63 := by
  intro y hy
  obtain ⟨x, hx, rfl⟩ := List.mem_map.1 hy
  rcases toA_cases x with ⟨_, h2⟩ | ⟨h2, _⟩
  · exact (lab_all h2).2.2
  · exact absurd (h x hx) h2
theorem joinLen (q : List (List UInt8)) (h : ∀ x ∈ q, x.length ≤ 63) : (joinL 46 q).length ≤ 64 * q.length := joinL_le q h
theorem parseD_names {l : List UInt8} (hn : numericL l = false) : parseD l = if (namesGo (splitL 46 l)).1 = 0 then jN (namesGo (splitL 46 l)).2 else ((namesGo (splitL 46 l)).1, hv0) := by
  unfold parseD jN
  rw [if_neg (by rw [hn]; simp)]
theorem parseD_num {l : List UInt8} (hn : numericL l = true) : parseD l = pN l := by
  unfold parseD pN
  rw [if_pos hn]
  cases pnL l <;> rfl
theorem undot_last (t : List UInt8) : undot t = if t.getLast? = some 46 then t.take (t.length - 1) else t := by
  unfold undot
  split
  · rw [List.dropLast_eq_take]
  · rfl
theorem last_ls (s : ByteArray) (h : 0 < s.size) : (ls s).getLast? = some (s[s.size - 1]'(by omega)) := by
  rw [List.getLast?_eq_getElem?, ls_length]
  exact ls_get s (s.size - 1) (by omega)
theorem empty_ls (s : ByteArray) (h : 0 < s.size) : (s.toList == ([] : List UInt8)) = false ∧ s.toList.isEmpty = false := by
  rw [toList_ls]
  have hl := ls_length s
  cases hs : ls s with
  | nil => rw [hs] at hl; simp at hl; omega
  | cons a r => exact ⟨rfl, rfl⟩
theorem empty_ls0 (s : ByteArray) (h : s.size = 0) : (s.toList == ([] : List UInt8)) = true ∧ s.toList.isEmpty = true := by
  rw [toList_ls]
  have hl := ls_length s
  cases hs : ls s with
  | nil => exact ⟨rfl, rfl⟩
  | cons a r => rw [hs] at hl; simp at hl; omega
set_option maxRecDepth 100000 in
set_option maxHeartbeats 8000000 in
theorem p14_long (s : ByteArray) (w : World) (hs : s.size ≤ 100000000) (h1 : 1024 < s.size) : Calls Tryz.prog 64 #[.string s] w (HostPost w (parseH (ls s))) := by
  have hr : RowH (w.alloc (.cells hz 27)) w.heap.size hz := row_new w _ _
  have hb : Below w.heap.size w (w.alloc (.cells hz 27)) := (Below.refl _ _).alloc (Nat.le_refl _) _
  · have e : parseH (ls s) = (3, hv0) := by unfold parseH; rw [if_pos (by rw [ls_length]; exact h1)]
    rw [e]
    have hd : decide ((1024 : Int) < (s.size : Int)) = true := decide_eq_true (by omega)
    clear h1 e
    go_enter Tryz.func64, Tryz.ntmps64
    go_wp2_with (refine wpList_store_host rfl rfl _ _ rfl w.heap.size (by exact rfl) hz (by exact rfl) _ hr rfl rfl (hc_one _ _ _ _) ?_; intro wz hrz hgz)
    exact ret_host 2 3 rfl w.heap.size rfl hz hrz rfl _ rfl rfl ⟨rfl, below_row hb hgz (Nat.le_refl _) (Nat.le_refl _)⟩
set_option maxRecDepth 100000 in
set_option maxHeartbeats 8000000 in
theorem p14_six (s : ByteArray) (w : World) (hs : s.size ≤ 100000000) (h1 : ¬ 1024 < s.size) (hh : (ls s).head? = some 91) : Calls Tryz.prog 64 #[.string s] w (HostPost w (parseH (ls s))) := by
  have hr : RowH (w.alloc (.cells hz 27)) w.heap.size hz := row_new w _ _
  have hb : Below w.heap.size w (w.alloc (.cells hz 27)) := (Below.refl _ _).alloc (Nat.le_refl _) _
  have hd : decide ((1024 : Int) < (s.size : Int)) = false := decide_eq_false (by omega)
  · have h0 : 0 < s.size := by
      have hl := ls_length s
      cases hls : ls s with
      | nil => rw [hls] at hh; cases hh
      | cons a r => rw [hls] at hl; simp at hl; omega
    obtain ⟨em1, em2⟩ := empty_ls s h0
    have hb0 : ((s[0].toNat : Int) == 91) = true := by
      rw [head_ls s h0] at hh
      injection hh with hh
      rw [hh]; rfl
    have e : parseH (ls s) = parse6H (ls s) := by unfold parseH; rw [if_neg (by rw [ls_length]; exact h1), if_pos hh]
    rw [e]
    have hlast := last_ls s h0
    obtain ⟨m, hm⟩ : ∃ m, m = s.size - 1 := ⟨_, rfl⟩
    have hm2 : m < s.size := by omega
    have hlast2 : (ls s).getLast? = some s[m] := by rw [hlast]; congr 2; exact hm.symm
    have hm3 : (s.size : Int) - 1 = (m : Int) := by omega
    clear hlast e h1 hm
    by_cases hq : s[m] = 93 ∧ 2 ≤ s.size
    · have q1 : ((s[m].toNat : Int) == 93) = true := by rw [hq.1]; rfl
      have q2 : ((s[m].toNat : Int) != 93) = false := by rw [bne, q1]; rfl
      have q3 : decide ((s.size : Int) < 2) = false := decide_eq_false (by omega)
      have e6 : parse6H (ls s) = match parse6 (ls (s.extract 1 m)) with | none => (14, hv0) | some g => (0, hv6 g) := by
        unfold parse6H
        rw [if_neg (by rw [hlast2, hq.1, ls_length]; simp; omega), ls_extract, List.dropLast_eq_take, List.length_drop, ls_length]
        rw [show s.size - 1 - 1 = m - 1 by omega]
        rfl
      rw [e6]
      have hsz : (s.extract 1 m).size ≤ 1000000000 := by rw [← ls_length, ls_extract, List.length_take, List.length_drop, ls_length]; omega
      have c := fun W => refParse6_any (s.extract 1 m) W hsz
      have hm1 : 1 ≤ m := by omega
      clear e6 hsz hlast2 hh hq
      cases hp : parse6 (ls (s.extract 1 m)) with
      | none =>
        rw [hp] at c
        rw [show av (arr6 none) = #[.int .u16 0, .int .u16 0, .int .u16 0, .int .u16 0, .int .u16 0, .int .u16 0, .int .u16 0, .int .u16 0] from rfl, show (none : Option (List Nat)).isSome = false from rfl] at c
        clear hp
        go_enter Tryz.func64, Tryz.ntmps64
        go_wp2_with fail
        refine (c _).mono ?_
        rintro e w1 ⟨rfl, hbn⟩
        replace hr : RowH w1 w.heap.size hz := Row.below hr hbn hr.lt
        replace hb := hb.trans (hbn.mono hb.size)
        clear hbn
        replace hr : RowH (w1.alloc (.cells #[.int .u16 0, .int .u16 0, .int .u16 0, .int .u16 0, .int .u16 0, .int .u16 0, .int .u16 0, .int .u16 0] 25)) w.heap.size hz := Row.grown0 hr (World.grownBy_alloc _ _ _)
        replace hb := hb.alloc hb.size (.cells #[.int .u16 0, .int .u16 0, .int .u16 0, .int .u16 0, .int .u16 0, .int .u16 0, .int .u16 0, .int .u16 0] 25)
        go_wp2_with (refine wpList_store_host rfl rfl _ _ rfl w.heap.size (by exact rfl) hz (by exact rfl) _ hr rfl rfl (hc_one _ _ _ _) ?_; intro wz hrz hgz)
        exact ret_host 2 3 rfl w.heap.size rfl hz hrz rfl _ rfl rfl ⟨rfl, below_row hb hgz (Nat.le_refl _) (Nat.le_refl _)⟩
      | some g =>
        have hg8 : g.length = 8 := (parse6_wf hp).1
        rw [hp] at c
        obtain ⟨x0, x1, x2, x3, x4, x5, x6, x7, rfl⟩ := list8e g hg8
        rw [show av (arr6 (some [x0, x1, x2, x3, x4, x5, x6, x7])) = #[.int .u16 (x0 : Nat), .int .u16 (x1 : Nat), .int .u16 (x2 : Nat), .int .u16 (x3 : Nat), .int .u16 (x4 : Nat), .int .u16 (x5 : Nat), .int .u16 (x6 : Nat), .int .u16 (x7 : Nat)] from rfl, show (some [x0, x1, x2, x3, x4, x5, x6, x7]).isSome = true from rfl] at c
        clear hp hg8
        go_enter Tryz.func64, Tryz.ntmps64
        go_wp2_with fail
        refine (c _).mono ?_
        rintro e w1 ⟨rfl, hbn⟩
        replace hr : RowH w1 w.heap.size hz := Row.below hr hbn hr.lt
        replace hb := hb.trans (hbn.mono hb.size)
        clear hbn
        replace hr : RowH (w1.alloc (.cells #[.int .u16 (x0 : Nat), .int .u16 (x1 : Nat), .int .u16 (x2 : Nat), .int .u16 (x3 : Nat), .int .u16 (x4 : Nat), .int .u16 (x5 : Nat), .int .u16 (x6 : Nat), .int .u16 (x7 : Nat)] 25)) w.heap.size hz := Row.grown0 hr (World.grownBy_alloc _ _ _)
        replace hb := hb.alloc hb.size (.cells #[.int .u16 (x0 : Nat), .int .u16 (x1 : Nat), .int .u16 (x2 : Nat), .int .u16 (x3 : Nat), .int .u16 (x4 : Nat), .int .u16 (x5 : Nat), .int .u16 (x6 : Nat), .int .u16 (x7 : Nat)] 25)
        go_wp2_with (refine wpList_store_host rfl rfl _ _ rfl w.heap.size (by exact rfl) (hc 3 ⟨#[]⟩ 0 [x0, x1, x2, x3, x4, x5, x6, x7]) (by exact rfl) _ hr rfl rfl (hc_one _ _ _ _) ?_; intro wz hrz hgz)
        exact ret_host 2 3 rfl w.heap.size rfl (hc 3 ⟨#[]⟩ 0 [x0, x1, x2, x3, x4, x5, x6, x7]) hrz rfl _ rfl rfl ⟨rfl, below_row hb hgz (Nat.le_refl _) (Nat.le_refl _)⟩
    · have e6 : parse6H (ls s) = (14, hv0) := by
        unfold parse6H
        rw [if_pos]
        rw [hlast2, ls_length]
        by_cases h93 : s[m] = 93
        · exact .inr (by have : ¬ 2 ≤ s.size := fun h => hq ⟨h93, h⟩; omega)
        · left
          intro h
          injection h with h
          exact h93 h
      rw [e6]
      have hq2 : ((s[m].toNat : Int) != 93) = true ∨ (((s[m].toNat : Int) != 93) = false ∧ decide ((s.size : Int) < 2) = true) := by
        by_cases h93 : s[m] = 93
        · right
          have : ((s[m].toNat : Int) == 93) = true := by rw [h93]; rfl
          exact ⟨by rw [bne, this]; rfl, decide_eq_true (by have : ¬ 2 ≤ s.size := fun h => hq ⟨h93, h⟩; omega)⟩
        · left
          have : ((s[m].toNat : Int) == 93) = false := byte_ne h93
          rw [bne, this]; rfl
      clear e6 hlast2 hh hq
      rcases hq2 with q1 | ⟨q1, q2⟩
      · skip
        go_enter Tryz.func64, Tryz.ntmps64
        go_wp2_with (refine wpList_store_host rfl rfl _ _ rfl w.heap.size (by exact rfl) hz (by exact rfl) _ hr rfl rfl (hc_one _ _ _ _) ?_; intro wz hrz hgz)
        exact ret_host 2 3 rfl w.heap.size rfl hz hrz rfl _ rfl rfl ⟨rfl, below_row hb hgz (Nat.le_refl _) (Nat.le_refl _)⟩
      · skip
        go_enter Tryz.func64, Tryz.ntmps64
        go_wp2_with (refine wpList_store_host rfl rfl _ _ rfl w.heap.size (by exact rfl) hz (by exact rfl) _ hr rfl rfl (hc_one _ _ _ _) ?_; intro wz hrz hgz)
        exact ret_host 2 3 rfl w.heap.size rfl hz hrz rfl _ rfl rfl ⟨rfl, below_row hb hgz (Nat.le_refl _) (Nat.le_refl _)⟩
set_option maxRecDepth 100000 in
set_option maxHeartbeats 8000000 in
theorem p14_name (s : ByteArray) (w : World) (hs : s.size ≤ 100000000) (h1 : ¬ 1024 < s.size) (hh : ¬ (ls s).head? = some 91) : Calls Tryz.prog 64 #[.string s] w (HostPost w (parseH (ls s))) := by
  have hr : RowH (w.alloc (.cells hz 27)) w.heap.size hz := row_new w _ _
  have hb : Below w.heap.size w (w.alloc (.cells hz 27)) := (Below.refl _ _).alloc (Nat.le_refl _) _
  have hd : decide ((1024 : Int) < (s.size : Int)) = false := decide_eq_false (by omega)
  · have hd2 : (s.toList.isEmpty = true ∧ (s.toList == ([] : List UInt8)) = true) ∨ (s.toList.isEmpty = false ∧ (s.toList == ([] : List UInt8)) = false ∧ ∃ h : 0 < s.size, ((s[0].toNat : Int) == 91) = false) := by
      by_cases h0 : 0 < s.size
      · right
        obtain ⟨em1, em2⟩ := empty_ls s h0
        refine ⟨em2, em1, h0, byte_ne (c := 91) (fun e => hh ?_)⟩
        rw [head_ls s h0, e]
      · left
        obtain ⟨em1, em2⟩ := empty_ls0 s (by omega)
        exact ⟨em2, em1⟩
    have cD := fun W => refDecode_any14 s hs W
    have ep : parseH (ls s) = match pctL (ls s) with | none => (14, hv0) | some t => parseD (undot t) := by unfold parseH; rw [if_neg (by rw [ls_length]; exact h1), if_neg hh]; cases pctL (ls s) <;> rfl
    rw [ep]
    clear ep hh
    cases hp : pctL (ls s) with
    | none =>
      rw [hp] at cD
      rw [show bs ((none : Option (List UInt8)).getD []) = ⟨#[]⟩ from rfl, show (none : Option (List UInt8)).isSome = false from rfl] at cD
      clear hp
      rcases hd2 with ⟨em2, em1⟩ | ⟨em2, em1, h0, hb0⟩
      · skip
        go_enter Tryz.func64, Tryz.ntmps64
        go_wp2_with fail
        refine (cD _).mono ?_
        rintro e w1 ⟨rfl, hbn⟩
        replace hr : RowH w1 w.heap.size hz := Row.below hr hbn hr.lt
        replace hb := hb.trans (hbn.mono hb.size)
        clear hbn
        go_wp2_with (refine wpList_store_host rfl rfl _ _ rfl w.heap.size (by exact rfl) hz (by exact rfl) _ hr rfl rfl (hc_one _ _ _ _) ?_; intro wz hrz hgz)
        exact ret_host 2 3 rfl w.heap.size rfl hz hrz rfl _ rfl rfl ⟨rfl, below_row hb hgz (Nat.le_refl _) (Nat.le_refl _)⟩
      · skip
        go_enter Tryz.func64, Tryz.ntmps64
        go_wp2_with fail
        refine (cD _).mono ?_
        rintro e w1 ⟨rfl, hbn⟩
        replace hr : RowH w1 w.heap.size hz := Row.below hr hbn hr.lt
        replace hb := hb.trans (hbn.mono hb.size)
        clear hbn
        go_wp2_with (refine wpList_store_host rfl rfl _ _ rfl w.heap.size (by exact rfl) hz (by exact rfl) _ hr rfl rfl (hc_one _ _ _ _) ?_; intro wz hrz hgz)
        exact ret_host 2 3 rfl w.heap.size rfl hz hrz rfl _ rfl rfl ⟨rfl, below_row hb hgz (Nat.le_refl _) (Nat.le_refl _)⟩
    | some t =>
      show Calls _ _ _ _ (HostPost w (parseD (undot t)))
      rw [hp] at cD
      have htl := pct_len hp
      rw [ls_length] at htl
      rw [show (some t).getD [] = t from rfl, show (some t).isSome = true from rfl] at cD
      clear hp
      obtain ⟨T, hT⟩ : ∃ T, T = bs t := ⟨_, rfl⟩
      have hTl : ls T = t := by rw [hT, ls_bs]
      have hTz : T.size ≤ 1024 := by rw [hT, bs_size]; omega
      rw [← hT] at cD
      clear hT
      subst hTl
      obtain ⟨U, hU⟩ : ∃ U, U = bs (undot (ls T)) := ⟨_, rfl⟩
      have hUl : ls U = undot (ls T) := by rw [hU, ls_bs]
      have hUz : U.size ≤ 1024 := by rw [hU, bs_size]; have := undot_len (ls T); rw [ls_length] at this; omega
      rw [← hUl]
      have hdot : (U = T ∧ (T.toList.isEmpty = true ∧ (T.toList == ([] : List UInt8)) = true ∨ T.toList.isEmpty = false ∧ (T.toList == ([] : List UInt8)) = false ∧ ∃ (m : Nat) (h : m < T.size), (T.size : Int) - 1 = (m : Int) ∧ ((T[m].toNat : Int) == 46) = false)) ∨
          (T.toList.isEmpty = false ∧ (T.toList == ([] : List UInt8)) = false ∧ ∃ (m : Nat) (h : m < T.size), (T.size : Int) - 1 = (m : Int) ∧ ((T[m].toNat : Int) == 46) = true ∧ T.extract 0 m = U) := by
        by_cases h0 : 0 < T.size
        · obtain ⟨em1, em2⟩ := empty_ls T h0
          have hl := last_ls T h0
          have hm3 : (T.size : Int) - 1 = ((T.size - 1 : Nat) : Int) := by omega
          by_cases h46 : T[T.size - 1]'(by omega) = 46
          · right
            refine ⟨em2, em1, T.size - 1, by omega, hm3, by rw [h46]; rfl, ?_⟩
            rw [hU, undot_last, hl, h46, if_pos rfl, ls_length]
            have := ls_extract T 0 (T.size - 1)
            rw [List.drop_zero, Nat.sub_zero] at this
            rw [← this, bs_ls]
          · left
            refine ⟨?_, .inr ⟨em2, em1, T.size - 1, by omega, hm3, byte_ne h46⟩⟩
            rw [hU, undot_last, hl, if_neg, bs_ls]
            intro h
            injection h with h
            exact h46 h
        · obtain ⟨em1, em2⟩ := empty_ls0 T (by omega)
          left
          refine ⟨?_, .inl ⟨em2, em1⟩⟩
          have : ls T = [] := List.length_eq_zero_iff.1 (by rw [ls_length]; omega)
          rw [hU, this, show undot [] = [] from rfl, ← this, bs_ls]
      have HDOT := Lib.hid hdot
      clear hdot
      have HUl := Lib.hid hUl
      have cN := fun W => refNumeric_any U W (by omega)
      have cP := fun W => refParseNumbers_any U W (by omega)
      have cS := fun W => refSplit_any U 46 W (by omega)
      clear hU hUl
      have hmain : ∀ (sl : Array Value) (W : World) (K : Prop), True := fun _ _ _ => trivial
      clear hmain
      obtain ⟨R, hR⟩ : ∃ R, R = parseD (ls U) := ⟨_, rfl⟩
      rw [← hR]
      have HR := Lib.hid hR
      clear hR
      rcases hd2 with ⟨em2, em1⟩ | ⟨em2, em1, h0, hb0⟩
      all_goals
        go_enter Tryz.func64, Tryz.ntmps64
        go_wp2_with fail
        refine (cD _).mono ?_
        rintro e w1 ⟨rfl, hbn⟩
        replace hr : RowH w1 w.heap.size hz := Row.below hr hbn hr.lt
        replace hb := hb.trans (hbn.mono hb.size)
        clear hbn
        clear em2 em1 cD
        obtain ⟨qd, hqd⟩ : ∃ q : Bool, (q = false ∧ U = T ∧ (T.toList.isEmpty = true ∧ (T.toList == ([] : List UInt8)) = true ∨ T.toList.isEmpty = false ∧ (T.toList == ([] : List UInt8)) = false ∧ ∃ (m : Nat) (h : m < T.size), (T.size : Int) - 1 = (m : Int) ∧ ((T[m].toNat : Int) == 46) = false)) ∨
            (q = true ∧ T.toList.isEmpty = false ∧ (T.toList == ([] : List UInt8)) = false ∧ ∃ (m : Nat) (h : m < T.size), (T.size : Int) - 1 = (m : Int) ∧ ((T[m].toNat : Int) == 46) = true ∧ T.extract 0 m = U) := by
          rcases HDOT.out with h | h
          · exact ⟨false, .inl ⟨rfl, h⟩⟩
          · exact ⟨true, .inr ⟨rfl, h⟩⟩
        have HQD := Lib.hid hqd
        clear hqd HDOT
        go_upto_region 13 with fail
        go_cut [69] from 60 to 69 (fun v wx => wx = w1 ∧ v = .bool qd)
        case first =>
          rcases HQD.out with ⟨rfl, rfl, ⟨em2, em1⟩ | ⟨em2, em1, m, hm, hm3, hq⟩⟩ | ⟨rfl, em2, em1, m, hm, hm3, hq, hX⟩
          · go_wp2_with fail
            go_meet
            exact ⟨rfl, rfl⟩
          · go_wp2_with fail
            go_meet
            exact ⟨rfl, rfl⟩
          · go_wp2_with fail
            go_meet
            exact ⟨rfl, rfl⟩
        obtain ⟨hwx, hvx⟩ := hcut
        subst hwx
        subst hvx
        go_upto_if 69 with fail
        go_cut [6] from 70 to 74 (fun v wx => wc = wx ∧ v = .string U)
        case first =>
          rcases HQD.out with ⟨rfl, rfl, _⟩ | ⟨rfl, em2, em1, m, hm, hm3, hq, hX⟩
          · go_wp2_with fail
            go_meet
            exact ⟨rfl, rfl⟩
          · go_wp2_with fail
            go_meet
            exact ⟨rfl, by rw [← hX]⟩
        case rest =>
          obtain ⟨hwx, hvx⟩ := hcut
          subst hwx
          subst hvx
          clear HQD
          cases hn : numericL (ls U) with
          | true =>
            rw [hn] at cN
            have hRN := HR.out
            rw [parseD_num hn] at hRN
            clear hn cS
            unfold pN at hRN
            cases hp : pnL (ls U) with
            | none =>
              rw [hp] at cP hRN
              have HRN := Lib.hid hRN
              clear hRN
              rw [show aV none = 0 from rfl, show aK none = false from rfl] at cP
              clear hp
              go_wp2_with fail
              refine (cN _).mono ?_
              rintro e w2 ⟨rfl, hbn⟩
              replace hr : RowH w2 w.heap.size hz := Row.below hr hbn hr.lt
              replace hb := hb.trans (hbn.mono hb.size)
              clear hbn
              go_wp2_with fail
              refine (cP _).mono ?_
              rintro e w3 ⟨rfl, hbn⟩
              replace hr : RowH w3 w.heap.size hz := Row.below hr hbn hr.lt
              replace hb := hb.trans (hbn.mono hb.size)
              clear hbn
              go_wp2_with (refine wpList_store_host rfl rfl _ _ rfl w.heap.size (by exact rfl) hz (by exact rfl) _ hr rfl rfl (hc_one _ _ _ _) ?_; intro wz hrz hgz)
              exact ret_host 2 3 rfl w.heap.size rfl hz hrz rfl _ rfl rfl ⟨by rw [HRN.out]; rfl, below_row hb hgz (Nat.le_refl _) (Nat.le_refl _)⟩
            | some v =>
              rw [hp] at cP hRN
              have HRN := Lib.hid hRN
              clear hRN
              rw [show aV (some v) = (v : Int) from rfl, show aK (some v) = true from rfl] at cP
              clear hp
              go_wp2_with fail
              refine (cN _).mono ?_
              rintro e w2 ⟨rfl, hbn⟩
              replace hr : RowH w2 w.heap.size hz := Row.below hr hbn hr.lt
              replace hb := hb.trans (hbn.mono hb.size)
              clear hbn
              go_wp2_with fail
              refine (cP _).mono ?_
              rintro e w3 ⟨rfl, hbn⟩
              replace hr : RowH w3 w.heap.size hz := Row.below hr hbn hr.lt
              replace hb := hb.trans (hbn.mono hb.size)
              clear hbn
              go_wp2_with (refine wpList_store_host rfl rfl _ _ rfl w.heap.size (by exact rfl) (hc 2 ⟨#[]⟩ (v : Nat) z8) (by exact rfl) _ hr rfl rfl (hc_one _ _ _ _) ?_; intro wz hrz hgz)
              exact ret_host 2 3 rfl w.heap.size rfl (hc 2 ⟨#[]⟩ (v : Nat) z8) hrz rfl _ rfl rfl ⟨by rw [HRN.out]; rfl, below_row hb hgz (Nat.le_refl _) (Nat.le_refl _)⟩
          | false =>
            rw [hn] at cN
            have hRN := HR.out
            rw [parseD_names hn] at hRN
            clear hn cP
            have hPl := splitL_length 46 (ls U)
            rw [ls_length] at hPl
            have hPs : ∀ x ∈ splitL 46 (ls U), x.length ≤ 1024 := fun x hx => Nat.le_trans (split_part_len 46 (ls U) x hx) (by rw [ls_length]; exact hUz)
            generalize splitL 46 (ls U) = P at *
            have HRN := Lib.hid hRN
            clear hRN
            go_wp2_with fail
            refine (cN _).mono ?_
            rintro e w2 ⟨rfl, hbn⟩
            replace hr : RowH w2 w.heap.size hz := Row.below hr hbn hr.lt
            replace hb := hb.trans (hbn.mono hb.size)
            clear hbn
            go_wp2_with fail
            refine (cS _).mono ?_
            rintro e w3 ⟨v, n, rfl, hown, hbn⟩
            obtain ⟨A, c, rfl, hh9, hnc⟩ := Has.of_own hown
            obtain rfl : n = P.length := by have := hh9.1; rw [wv_length] at this; exact this.symm
            replace hr : RowH w3 w.heap.size hz := Row.below hr hbn hr.lt
            replace hb := hb.trans (hbn.mono hb.size)
            clear hbn hown cS cN
            have HP1 := Lib.hid hPl
            have HPS := Lib.hid hPs
            clear hPl hPs
            obtain ⟨B3, hB3⟩ : ∃ b, b = w3.heap.size := ⟨_, rfl⟩
            have hB3' : B3 ≤ w3.heap.size := by omega
            rw [← hB3] at hh9
            clear hB3
            go_wp2
            go_loopw [10, 12] (fun v i wr => ∃ k : Nat, k ≤ P.length ∧ i = .int .i64 k ∧ v = .string (bs (joinL 46 (nmB (P.take k)))) ∧ Hid (∀ x ∈ P.take k, (toA x).1 = 0) ∧ Has wr B3 A P.length (wv P) ∧ B3 ≤ wr.heap.size ∧ RowH wr w.heap.size hz ∧ Below w.heap.size w wr) (fun _ i _ => P.length - (intOf i).toNat)
            case atStart => exact ⟨0, Nat.zero_le _, rfl, rfl, Lib.hid (fun x hx => by cases hx), hh9, hB3', hr, hb⟩
            case round =>
              clear hh9 hB3' hr hb
              obtain ⟨k, hk, rfl, rfl, HOK, hh9, hB3', hr, hb⟩ := hrel
              by_cases hlt : k < P.length
              · obtain ⟨b, off, hA, hbB, hc⟩ := hh9.at_ hlt
                rw [wv_get P k hlt] at hc
                have hk9 : k ≤ 2000 := by have := HP1.out; omega
                have hxz : P[k].length ≤ 1024 := HPS.out _ (List.getElem_mem hlt)
                have cT := fun W => refToA_any (bs P[k]) W (by rw [bs_size]; omega)
                have htk : P.take (k + 1) = P.take k ++ [P[k]] := by rw [List.take_succ_eq_append_getElem hlt]
                have hPe : P = P.take k ++ P[k] :: P.drop (k + 1) := by rw [← List.drop_eq_getElem_cons hlt, List.take_append_drop]
                by_cases h0 : (toA P[k]).1 = 0
                · have hok2 : ∀ x ∈ P.take (k + 1), (toA x).1 = 0 := by
                    intro x hx
                    rw [htk] at hx
                    rcases List.mem_append.1 hx with hx | hx
                    · exact HOK.out x hx
                    · simp at hx
                      rw [hx]
                      exact h0
                  have HOK2 := Lib.hid hok2
                  have hJ0 := joinLen (nmB (P.take k)) (nmB_le HOK.out)
                  have hJl : (nmB (P.take k)).length ≤ 1025 := by unfold nmB; rw [List.length_map, List.length_take]; have := HP1.out; omega
                  have hy1 : (toA P[k]).2.length ≤ 63 := by
                    have := nmB_le hok2 (toA P[k]).2 (by rw [htk]; unfold nmB; rw [List.map_append]; exact List.mem_append_right _ (by simp))
                    exact this
                  obtain ⟨Y, hY⟩ : ∃ Y, Y = bs (toA P[k]).2 := ⟨_, rfl⟩
                  obtain ⟨X, hX⟩ : ∃ X, X = bs (joinL 46 (nmB (P.take k))) := ⟨_, rfl⟩
                  have hXz : X.size ≤ 100000 := by rw [hX, bs_size]; omega
                  have hYz : Y.size ≤ 63 := by rw [hY, bs_size]; exact hy1
                  rw [ls_bs, ← hY, h0] at cT
                  simp only [show ((0 : Nat) : Int) = 0 from rfl] at cT
                  rw [← hX]
                  have HN : Hid (bs (joinL 46 (nmB (P.take (k + 1)))) = if k = 0 then X ++ Y else X ++ ⟨#[46]⟩ ++ Y) := by
                    refine Lib.hid ?_
                    have e9 : nmB (P.take (k + 1)) = nmB (P.take k) ++ [(toA P[k]).2] := by unfold nmB; rw [htk, List.map_append]; rfl
                    have e8 : nmB (P.take k) = [] ↔ k = 0 := by
                      unfold nmB
                      rw [List.map_eq_nil_iff, List.take_eq_nil_iff]
                      constructor
                      · rintro (h | h)
                        · exact h
                        · rw [h] at hlt; simp at hlt
                      · exact .inl
                    rw [e9, join_snoc46]
                    by_cases hk0 : k = 0
                    · rw [if_pos (e8.2 hk0), if_pos hk0]
                      apply ls_inj
                      rw [ls_append, hX, hY, ls_bs, ls_bs, ls_bs]
                      rfl
                    · rw [if_neg (fun h => hk0 (e8.1 h)), if_neg hk0]
                      apply ls_inj
                      rw [ls_append, ls_append, hX, hY, ls_bs, ls_bs, ls_bs, List.append_assoc]
                      rfl
                  have hs1 : ¬ (9223372036854775807 < X.size + (⟨#[46]⟩ : ByteArray).size) := by
                    rw [show (⟨#[46]⟩ : ByteArray).size = 1 from rfl]; omega
                  have hs2 : ¬ (9223372036854775807 < (X ++ ⟨#[46]⟩).size + Y.size) := by
                    rw [ByteArray.size_append, show (⟨#[46]⟩ : ByteArray).size = 1 from rfl]; omega
                  have hs3 : ¬ (9223372036854775807 < X.size + Y.size) := by omega
                  clear hY hX hok2 hJ0 hJl hy1 h0 htk hPe hxz
                  subst hA
                  by_cases hk0 : 0 < k
                  · have hd9 : decide (0 < k) = true := decide_eq_true hk0
                    have hd8 : decide ((0 : Int) < (k : Int)) = true := decide_eq_true (by omega)
                    rw [if_neg (by omega)] at HN
                    clear hk0
                    go_wp2_with fail
                    refine (cT _).mono ?_
                    rintro e w4 ⟨rfl, hbn⟩
                    replace hr : RowH w4 w.heap.size hz := Row.below hr hbn hr.lt
                    replace hh9 := hh9.below' hbn hB3'
                    replace hB3' := Nat.le_trans hB3' hbn.size
                    replace hb := hb.trans (hbn.mono hb.size)
                    clear hbn
                    go_wp2
                    go_roundw
                    case rel => exact ⟨k + 1, hlt, by go_num, by rw [HN.out], HOK2, hh9, hB3', hr, hb⟩
                    case measure => simp [intOf]; omega
                  · have hd9 : decide (0 < k) = false := decide_eq_false hk0
                    have hd8 : decide ((0 : Int) < (k : Int)) = false := decide_eq_false (by omega)
                    rw [if_pos (by omega)] at HN
                    clear hk0
                    go_wp2_with fail
                    refine (cT _).mono ?_
                    rintro e w4 ⟨rfl, hbn⟩
                    replace hr : RowH w4 w.heap.size hz := Row.below hr hbn hr.lt
                    replace hh9 := hh9.below' hbn hB3'
                    replace hB3' := Nat.le_trans hB3' hbn.size
                    replace hb := hb.trans (hbn.mono hb.size)
                    clear hbn
                    go_wp2
                    go_roundw
                    case rel => exact ⟨k + 1, hlt, by go_num, by rw [HN.out], HOK2, hh9, hB3', hr, hb⟩
                    case measure => simp [intOf]; omega
                · have e9 : (if (namesGo P).1 = 0 then jN (namesGo P).2 else ((namesGo P).1, hv0)) = ((toA P[k]).1, hv0) := by
                    have e7 := names_bad (P.take k) P[k] (P.drop (k + 1)) HOK.out h0
                    rw [← hPe] at e7
                    rw [e7, if_neg h0]
                  have hRe := HRN.out
                  rw [e9] at hRe
                  obtain ⟨E1, hE1⟩ : ∃ n, n = (toA P[k]).1 := ⟨_, rfl⟩
                  rw [ls_bs, ← hE1] at cT
                  rw [← hE1] at h0 hRe
                  have HRE := Lib.hid hRe
                  clear hRe
                  generalize bs (toA P[k]).2 = Y at *
                  generalize bs (joinL 46 (nmB (P.take k))) = X at *
                  have hq : ((E1 : Int) == 0) = false := by rw [beq_eq_false_iff_ne]; omega
                  have hq2 : ((E1 : Int) != 0) = true := by rw [bne, hq]; rfl
                  clear hE1 h0 e9 htk hPe hxz
                  subst hA
                  go_wp2_with fail
                  refine (cT _).mono ?_
                  rintro e w4 ⟨rfl, hbn⟩
                  replace hr : RowH w4 w.heap.size hz := Row.below hr hbn hr.lt
                  replace hb := hb.trans (hbn.mono hb.size)
                  clear hbn
                  go_wp2_with (refine wpList_store_host rfl rfl _ _ rfl w.heap.size (by exact rfl) hz (by exact rfl) _ hr rfl rfl (hc_one _ _ _ _) ?_; intro wz hrz hgz)
                  exact ret_host 2 3 rfl w.heap.size rfl hz hrz rfl _ rfl rfl ⟨by rw [HRE.out]; rfl, below_row hb hgz (Nat.le_refl _) (Nat.le_refl _)⟩
              · obtain rfl : k = P.length := by omega
                have hall : ∀ x ∈ P, (toA x).1 = 0 := by have := HOK.out; rwa [List.take_length] at this
                have hJ0 := joinLen (nmB P) (nmB_le hall)
                have hJl : (nmB P).length ≤ 1025 := by unfold nmB; rw [List.length_map]; have := HP1.out; omega
                have hRe := HRN.out
                rw [names_ok P hall] at hRe
                simp only [if_true] at hRe
                rw [List.take_length]
                have cM := fun W => refNumeric_any (bs (joinL 46 (nmB P))) W (by rw [bs_size]; omega)
                have hz1 : (bs (joinL 46 (nmB P))).size = (joinL 46 (nmB P)).length := bs_size _
                rw [ls_bs] at cM
                have hD : (hvD (joinL 46 (nmB P))).cells = hc 1 (bs (joinL 46 (nmB P))) 0 z8 := rfl
                unfold jN at hRe
                by_cases h9 : 253 < (joinL 46 (nmB P)).length
                · rw [if_pos h9] at hRe
                  have HRE := Lib.hid hRe
                  clear hRe
                  have hd9 : decide ((253 : Int) < ((bs (joinL 46 (nmB P))).size : Int)) = true := decide_eq_true (by omega)
                  generalize bs (joinL 46 (nmB P)) = X at *
                  clear hJ0 hJl cM hz1 hD h9 hall HOK hk hlt
                  go_wp2_with (refine wpList_store_host rfl rfl _ _ rfl w.heap.size (by exact rfl) hz (by exact rfl) _ hr rfl rfl (hc_one _ _ _ _) ?_; intro wz hrz hgz)
                  exact ret_host 2 3 rfl w.heap.size rfl hz hrz rfl _ rfl rfl ⟨by rw [HRE.out]; rfl, below_row hb hgz (Nat.le_refl _) (Nat.le_refl _)⟩
                · rw [if_neg h9] at hRe
                  have hd9 : decide ((253 : Int) < ((bs (joinL 46 (nmB P))).size : Int)) = false := decide_eq_false (by omega)
                  cases hq : numericL (joinL 46 (nmB P)) with
                  | true =>
                    rw [hq] at cM
                    rw [if_pos hq] at hRe
                    have HRE := Lib.hid hRe
                    clear hRe
                    generalize bs (joinL 46 (nmB P)) = X at *
                    clear hJ0 hJl hz1 hD h9 hall HOK hk hlt hq
                    go_wp2_with fail
                    refine (cM _).mono ?_
                    rintro e w4 ⟨rfl, hbn⟩
                    replace hr : RowH w4 w.heap.size hz := Row.below hr hbn hr.lt
                    replace hb := hb.trans (hbn.mono hb.size)
                    clear hbn
                    go_wp2_with (refine wpList_store_host rfl rfl _ _ rfl w.heap.size (by exact rfl) hz (by exact rfl) _ hr rfl rfl (hc_one _ _ _ _) ?_; intro wz hrz hgz)
                    exact ret_host 2 3 rfl w.heap.size rfl hz hrz rfl _ rfl rfl ⟨by rw [HRE.out]; rfl, below_row hb hgz (Nat.le_refl _) (Nat.le_refl _)⟩
                  | false =>
                    rw [hq] at cM
                    rw [if_neg (by rw [hq]; simp)] at hRe
                    have HRE : Hid (R.2.cells = hc 1 (bs (joinL 46 (nmB P))) 0 z8 ∧ R.1 = 0) := Lib.hid (by rw [hRe]; exact ⟨hD, rfl⟩)
                    clear hRe
                    generalize bs (joinL 46 (nmB P)) = X at *
                    clear hJ0 hJl hz1 hD h9 hall HOK hk hlt hq
                    go_wp2_with fail
                    refine (cM _).mono ?_
                    rintro e w4 ⟨rfl, hbn⟩
                    replace hr : RowH w4 w.heap.size hz := Row.below hr hbn hr.lt
                    replace hb := hb.trans (hbn.mono hb.size)
                    clear hbn
                    go_wp2_with (refine wpList_store_host rfl rfl _ _ rfl w.heap.size (by exact rfl) (hc 1 X 0 z8) (by exact rfl) _ hr rfl rfl (hc_one _ _ _ _) ?_; intro wz hrz hgz)
                    exact ret_host 2 3 rfl w.heap.size rfl (hc 1 X 0 z8) hrz rfl _ rfl rfl ⟨by rw [HRE.out.1, HRE.out.2]; rfl, below_row hb hgz (Nat.le_refl _) (Nat.le_refl _)⟩
theorem refParse14_any (s : ByteArray) (w : World) (hs : s.size ≤ 100000000) : Calls Tryz.prog 64 #[.string s] w (HostPost w (parseH (ls s))) := by
  by_cases h1 : 1024 < s.size
  · exact p14_long s w hs h1
  · by_cases hh : (ls s).head? = some 91
    · exact p14_six s w hs h1 hh
    · exact p14_name s w hs h1 hh
end

end Go.Proofs.YtdfacgncphmcoaaGreatDoor
