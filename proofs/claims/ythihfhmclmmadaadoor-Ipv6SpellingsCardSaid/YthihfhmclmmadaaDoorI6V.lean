/-
  Plain facts of Ipv6Spellings: how far a spelling has come and what it reads as.
-/
import Derived.Test.YthihfhmclmmadaaDoorI6S
namespace Go.Proofs.YthihfhmclmmadaaDoor
open Go.RowKit

theorem Grps.len {P : List (List UInt8)} {g : List Nat} (h : Grps P g) : P.length = g.length := by
  have := congrArg List.length h
  simpa using this
theorem Grps.cols2 {P : List (List UInt8)} {g : List Nat} (h : Grps P g) : Cols P := by
  intro x hx
  have h1 : hexL x ∈ P.map hexL := List.mem_map.2 ⟨x, hx, rfl⟩
  rw [show P.map hexL = g.map some from h] at h1
  obtain ⟨y, _, hy⟩ := List.mem_map.1 h1
  exact hex_cols hy.symm
theorem Grps.snoc {P : List (List UInt8)} {g : List Nat} (h : Grps P g) {x : List UInt8} {y : Nat} (hx : hexL x = some y) : Grps (P ++ [x]) (g ++ [y]) :=
  h.append (by unfold Grps; simp [hx])
theorem join58_len : ∀ (P : List (List UInt8)) (g : List Nat), Grps P g → (joinL 58 P).length ≤ 5 * g.length
  | [], g, _ => by simp [joinL]
  | [x], g, h => by
    have hl := h.len
    unfold Grps at h
    match g, h with
    | [y], h =>
      have hx : hexL x = some y := by simpa using h
      have := hex_len hx
      simp [joinL]; omega
  | x :: z :: r, g, h => by
    unfold Grps at h
    match g, h with
    | y :: g, h =>
      have hx : hexL x = some y := by simp at h; exact h.1
      have hr : Grps (z :: r) g := by unfold Grps; simp at h ⊢; exact h.2
      have h1 := hex_len hx
      have h2 := join58_len (z :: r) g hr
      rw [joinL_cons 58 x (z :: r) (by simp)]
      simp only [List.length_append, List.length_cons]
      omega
theorem join58_snoc (x : List UInt8) : ∀ Q : List (List UInt8), Q ≠ [] → joinL 58 (Q ++ [x]) = joinL 58 Q ++ 58 :: x
  | [], h => absurd rfl h
  | [a], _ => rfl
  | a :: b :: r, _ => by
    rw [List.cons_append, joinL_cons 58 a _ (by simp), join58_snoc x (b :: r) (by simp), joinL_cons 58 a (b :: r) (by simp)]
    simp
/-- How far a spelling has come: i groups are written, n groups from f on as a double colon. -/
def Sp6 (b : List Nat) (f n i : Nat) (X : ByteArray) : Prop :=
  ((n = 0 ∨ i ≤ f) ∧ ∃ P, X = bs (joinL 58 P) ∧ Grps P (b.take i)) ∨
  (0 < n ∧ f + n ≤ i ∧ ∃ P Q, X = bs (joinL 58 P ++ 58 :: 58 :: joinL 58 Q) ∧ Grps P (b.take f) ∧ Grps Q ((b.take i).drop (f + n)))
theorem Sp6.start (b : List Nat) (f n : Nat) : Sp6 b f n 0 (bs []) := .inl ⟨.inr (Nat.zero_le _), [], rfl, by unfold Grps; simp⟩
theorem Sp6.size {b : List Nat} {f n i : Nat} {X : ByteArray} (h : Sp6 b f n i X) (hb : b.length = 8) : X.size ≤ 82 := by
  rcases h with ⟨_, P, rfl, hP⟩ | ⟨_, _, P, Q, rfl, hP, hQ⟩
  · have := join58_len _ _ hP
    rw [bs_size]
    simp at this
    omega
  · have h1 := join58_len _ _ hP
    have h2 := join58_len _ _ hQ
    rw [bs_size]
    simp at h1 h2 ⊢
    omega
/-- The double colon. -/
theorem Sp6.dbl {b : List Nat} {f n : Nat} {X : ByteArray} (h : Sp6 b f n f X) (hn : 0 < n) : Sp6 b f n (f + n) (X ++ (⟨#[58, 58]⟩ : ByteArray)) := by
  rcases h with ⟨_, P, rfl, hP⟩ | ⟨_, h2, _⟩
  · refine .inr ⟨hn, Nat.le_refl _, P, [], ?_, hP, ?_⟩
    · exact bs_add _ [58, 58]
    · unfold Grps
      rw [List.drop_eq_nil_of_le (by simp; omega)]; rfl
  · omega
theorem take_next (b : List Nat) (i : Nat) (h : i < b.length) : b.take (i + 1) = b.take i ++ [b.getD i 0] := by
  rw [List.take_succ_eq_append_getElem h, List.getD_eq_getElem?_getD, List.getElem?_eq_getElem h, Option.getD_some]
theorem drop_next (b : List Nat) (i k : Nat) (h : i < b.length) (hk : k ≤ i) : (b.take (i + 1)).drop k = (b.take i).drop k ++ [b.getD i 0] := by
  rw [take_next b i h, List.drop_append_of_le_length (by simp; omega)]
/-- One group more, with a colon before it. -/
theorem Sp6.colon {b : List Nat} {f n i : Nat} {X : ByteArray} (h : Sp6 b f n i X) (hb : b.length = 8) (hi : i < 8) (hi0 : 0 < i) (hc : n = 0 ∨ i ≠ f + n) (hf : ¬ (i = f ∧ 0 < n)) {x : List UInt8} (hx : hexL x = some (b.getD i 0)) :
    Sp6 b f n (i + 1) (X ++ (⟨#[58]⟩ : ByteArray) ++ bs x) := by
  rcases h with ⟨h1, P, rfl, hP⟩ | ⟨h0, h1, P, Q, rfl, hP, hQ⟩
  · have hne : P ≠ [] := by
      intro e; have := hP.len; rw [e] at this; simp at this; omega
    refine .inl ⟨by omega, P ++ [x], ?_, ?_⟩
    · rw [join58_snoc x P hne, show bs (joinL 58 P) ++ (⟨#[58]⟩ : ByteArray) = bs (joinL 58 P ++ [58]) from bs_add _ [58], bs_add]; simp
    · rw [take_next b i (by omega)]; exact hP.snoc hx
  · have hne : Q ≠ [] := by
      intro e; have := hQ.len; rw [e] at this; simp at this; omega
    refine .inr ⟨h0, by omega, P, Q ++ [x], ?_, hP, ?_⟩
    · rw [join58_snoc x Q hne, show ∀ l : List UInt8, bs l ++ (⟨#[58]⟩ : ByteArray) = bs (l ++ [58]) from fun l => bs_add l [58], bs_add]; simp
    · rw [drop_next b i _ (by omega) h1]; exact hQ.snoc hx
/-- One group more, with no colon before it. -/
theorem Sp6.bare {b : List Nat} {f n i : Nat} {X : ByteArray} (h : Sp6 b f n i X) (hb : b.length = 8) (hi : i < 8) (hc : ¬ (0 < i ∧ (n = 0 ∨ i ≠ f + n))) (hf : ¬ (i = f ∧ 0 < n)) {x : List UInt8} (hx : hexL x = some (b.getD i 0)) :
    Sp6 b f n (i + 1) (X ++ bs x) := by
  rcases h with ⟨h1, P, rfl, hP⟩ | ⟨h0, h1, P, Q, rfl, hP, hQ⟩
  · have hi0 : i = 0 := by omega
    have he : P = [] := by
      have := hP.len
      rw [hi0] at this
      exact List.eq_nil_of_length_eq_zero (by simpa using this)
    subst he
    refine .inl ⟨by omega, [x], ?_, ?_⟩
    · exact bs_add [] x
    · rw [take_next b i (by omega), hi0]
      rw [hi0] at hx
      unfold Grps; simp [hx]
  · have hie : i = f + n := by omega
    have he : Q = [] := by
      have := hQ.len
      rw [← hie] at this
      exact List.eq_nil_of_length_eq_zero (by simpa using this)
    subst he
    refine .inr ⟨h0, by omega, P, [x], ?_, hP, ?_⟩
    · rw [bs_add]; simp [joinL]
    · rw [drop_next b i _ (by omega) h1, hie, List.drop_eq_nil_of_le (by simp; omega)]
      rw [hie] at hx
      unfold Grps; simp [hx]
theorem split_zero (b : List Nat) (f n : Nat) (hb : b.length = 8) (hfn : f + n ≤ 8) (hz : ∀ j, f ≤ j → j < f + n → b.getD j 0 = 0) : b.take f ++ (zerosN n ++ b.drop (f + n)) = b := by
  have h1 : (b.drop f).take n = zerosN n := by
    apply List.ext_getElem (by simp [zerosN]; omega)
    intro j h1 h2
    have hj : j < n := by simpa [zerosN] using h2
    have := hz (f + j) (by omega) (by omega)
    rw [List.getD_eq_getElem?_getD, List.getElem?_eq_getElem (by omega), Option.getD_some] at this
    simp only [List.getElem_take, List.getElem_drop, zerosN, List.getElem_replicate]
    exact this
  rw [← h1, ← List.drop_drop, List.take_append_drop, List.take_append_drop]
/-- What a whole spelling reads as. -/
theorem Sp6.whole {b : List Nat} {f n : Nat} {X : ByteArray} (h : Sp6 b f n 8 X) (hb : b.length = 8) (hf : f < 8) (hfn : f + n ≤ 8) (hz : ∀ j, f ≤ j → j < f + n → b.getD j 0 = 0) : parse6 (ls X) = some b := by
  rcases h with ⟨_, P, rfl, hP⟩ | ⟨h0, _, P, Q, rfl, hP, hQ⟩
  · rw [List.take_of_length_le (by omega)] at hP
    rw [ls_bs]
    exact parse_plain hP.cols2 (grp_ok P b true hP) hb
  · rw [List.take_of_length_le (by omega)] at hQ
    rw [ls_bs, parse_cols hP.cols2 hQ.cols2 (grp_ok P _ false hP) (grp_ok Q _ true hQ) (by simp; omega)]
    have e : 8 - (b.take f).length - (b.drop (f + n)).length = n := by simp; omega
    rw [e, split_zero b f n hb hfn hz]
theorem dec_noC (u : Nat) : noB 58 (Lib.decDigits u) := by
  have := dec_digits u
  rw [List.all_eq_true] at this
  intro c hc he
  have := this c hc
  rw [he] at this
  simp [digitU, digitB] at this
theorem noB_cut {c d : UInt8} (hd : d ≠ c) {a m : List UInt8} (ha : noB c a) (hm : noB c m) : noB c (a ++ d :: m) := by
  intro x hx
  rcases List.mem_append.1 hx with h | h
  · exact ha x h
  · rcases List.mem_cons.1 h with rfl | h
    · exact hd
    · exact hm x h
theorem fmtI_cols (v : Nat) : fmtI v ≠ [] ∧ noB 58 (fmtI v) := by
  refine ⟨by unfold fmtI; simp [joinL], ?_⟩
  unfold fmtI
  rw [joinL_cons 46 _ _ (by simp), joinL_cons 46 _ _ (by simp), joinL_cons 46 _ _ (by simp)]
  have h := fun u => dec_noC u
  have hne : (46 : UInt8) ≠ 58 := by decide
  exact noB_cut hne (h _) (noB_cut hne (h _) (noB_cut hne (h _) (h _)))
/-- What a spelling with a dotted tail reads as. -/
theorem Sp6.dotted {b : List Nat} {f n v : Nat} {X Y : ByteArray} (h : Sp6 b f n 6 X) (hb : b.length = 8) (hfn : f + n ≤ 6) (hz : ∀ j, f ≤ j → j < f + n → b.getD j 0 = 0) (hv : v < 4294967296) (h6 : b.getD 6 0 = v / 65536) (h7 : b.getD 7 0 = v % 65536)
    (hY : Y = if n = 0 ∨ 6 ≠ f + n then X ++ (⟨#[58]⟩ : ByteArray) ++ bs (fmtI v) else X ++ bs (fmtI v)) : parse6 (ls Y) = some b := by
  have hb6 : b.drop 6 = [v / 65536, v % 65536] := by
    rw [List.drop_eq_getElem_cons (by omega), List.drop_eq_getElem_cons (by omega), List.drop_eq_nil_of_le (by omega)]
    rw [List.getD_eq_getElem?_getD, List.getElem?_eq_getElem (by omega), Option.getD_some] at h6 h7
    rw [h6, h7]
  obtain ⟨c1, c2⟩ := fmtI_cols v
  rcases h with ⟨h1, P, rfl, hP⟩ | ⟨h0, h1, P, Q, rfl, hP, hQ⟩
  · have hn : n = 0 ∨ 6 ≠ f + n := by omega
    have hne : P ≠ [] := by
      intro e; have := hP.len; rw [e] at this; simp at this; omega
    rw [if_pos hn] at hY
    rw [hY, show bs (joinL 58 P) ++ (⟨#[58]⟩ : ByteArray) = bs (joinL 58 P ++ [58]) from bs_add _ [58], bs_add, ls_bs, List.append_assoc, List.singleton_append, ← join58_snoc _ P hne]
    have hg := grp_dot P _ v hP hv
    rw [← hb6, List.take_append_drop] at hg
    refine parse_plain ?_ hg hb
    intro x hx
    rcases List.mem_append.1 hx with h | h
    · exact hP.cols2 x h
    · rw [List.mem_singleton.1 h]; exact ⟨c1, c2⟩
  · have hg := grp_dot Q _ v hQ hv
    have hdr : (b.take 6).drop (f + n) ++ [v / 65536, v % 65536] = b.drop (f + n) := by
      rw [← hb6, ← List.drop_append_of_le_length (by simp; omega), List.take_append_drop]
    rw [hdr] at hg
    have hcol : Cols (Q ++ [fmtI v]) := by
      intro x hx
      rcases List.mem_append.1 hx with h | h
      · exact hQ.cols2 x h
      · rw [List.mem_singleton.1 h]; exact ⟨c1, c2⟩
    have hls : ls Y = joinL 58 P ++ 58 :: 58 :: joinL 58 (Q ++ [fmtI v]) := by
      rw [hY]
      split
      · rename_i hn
        have hne : Q ≠ [] := by
          intro e; have := hQ.len; rw [e] at this; simp at this; omega
        rw [show ∀ l : List UInt8, bs l ++ (⟨#[58]⟩ : ByteArray) = bs (l ++ [58]) from fun l => bs_add l [58], bs_add, ls_bs, join58_snoc _ Q hne]
        simp
      · have he : Q = [] := by
          have := hQ.len
          exact List.eq_nil_of_length_eq_zero (by simp at this; omega)
        rw [he, bs_add, ls_bs]
        simp [joinL]
    rw [hls, parse_cols hP.cols2 hcol (grp_ok P _ false hP) hg (by simp; omega)]
    have e : 8 - (b.take f).length - (b.drop (f + n)).length = n := by simp; omega
    rw [e, split_zero b f n hb (by omega) hz]

end Go.Proofs.YthihfhmclmmadaaDoor
