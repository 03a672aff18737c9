/-
  Contracts of strconv.AppendUint to the base 16, and of joined of package ipv6.
-/
import Derived.Test.YthihfhmclmmadaaDoorI6E
import Derived.Test.YthihfhmclmmadaaDoorI6Q
namespace Go.Proofs.YthihfhmclmmadaaDoor
open Go.RowKit

theorem iappend16_any (B n u : Nat) (hu : u < 65536) (sv : Value) (l : List UInt8) (w : World) (hp : Pow6 w) (hown : w.ownsRow B 5 1 sv n (l.map bv)) (hB : B ≤ w.heap.size) (hn : n ≤ 1000000000) :
    Calls Tryd.prog 39 #[sv, .int .u64 u, .int .i64 16] w fun e w' => ∃ v', e = .returned v' ∧ w'.ownsRow B 5 1 v' (n + (hexT u).length) ((l ++ hexT u).map bv) ∧ Below B w w' := by
  have c1 := fbits_any B n u hu sv l w hp hown hB hn
  clear hown hp
  go_enter Tryd.func39, Tryd.ntmps39
  go_wp2_with fail
  refine c1.mono ?_
  rintro e w' ⟨v', rfl, h1, h2⟩
  go_wp2
  go_ret
  exact ⟨_, rfl, h1, h2⟩
theorem append16_any (B n u : Nat) (hu : u < 65536) (sv : Value) (l : List UInt8) (w : World) (hp : Pow6 w) (hown : w.ownsRow B 5 1 sv n (l.map bv)) (hB : B ≤ w.heap.size) (hn : n ≤ 1000000000) :
    Calls Tryd.prog 34 #[sv, .int .u64 u, .int .i64 16] w fun e w' => ∃ v', e = .returned v' ∧ w'.ownsRow B 5 1 v' (n + (hexT u).length) ((l ++ hexT u).map bv) ∧ Below B w w' := by
  have c1 := iappend16_any B n u hu sv l w hp hown hB hn
  clear hown hp
  go_enter Tryd.func34, Tryd.ntmps34
  go_wp2_with fail
  refine c1.mono ?_
  rintro e w' ⟨v', rfl, h1, h2⟩
  go_wp2
  go_ret
  exact ⟨_, rfl, h1, h2⟩

/-- The texts of the first groups. -/
def jn (g : List Nat) (k : Nat) : List UInt8 := joinL 58 ((g.take k).map hexT)
theorem jn_succ (g : List Nat) (k : Nat) (h : k < g.length) : jn g (k + 1) = jn g k ++ ((if k = 0 then [] else [58]) ++ hexT (g.getD k 0)) := by
  unfold jn
  rw [take_snoc g k h, List.map_append, List.map_singleton, join_snoc58]
  congr 2
  by_cases hk : k = 0
  · subst hk; simp
  · rw [if_neg hk, if_neg]
    simp only [List.map_eq_nil_iff]
    intro e
    have := congrArg List.length e
    rw [List.length_take] at this
    simp only [List.length_nil] at this
    omega
theorem jn_len (g : List Nat) (hg : G16 g) (k : Nat) (hk : k ≤ 8) : (jn g k).length ≤ 40 := by
  have := join_len (g.take k) (hg.take k)
  rw [List.length_take] at this
  unfold jn
  omega
theorem own_nil8 (w : World) (B : Nat) : w.ownsRow B 5 1 (.slice none 0 0) 0 [] := ⟨rfl, .inl ⟨rfl, rfl⟩⟩

set_option maxRecDepth 20000 in
set_option maxHeartbeats 4000000 in
theorem joined_any (A : Option Addr) (n cap : Nat) (g : List Nat) (hg : G16 g) (hn8 : n ≤ 8) (w : World) (hp : Pow6 w) (hh : Has w w.heap.size A n (uv g)) :
    Calls Tryd.prog 23 #[.slice A n cap] w fun e w' => e = .returned (.string (bs (joinL 58 (g.map hexT)))) ∧ Below w.heap.size w w' := by
  obtain ⟨i5, hi5, hz0, hz1, hz2⟩ := info_parts infoU8
  have hlen : g.length = n := by have := hh.1; rwa [uv_length] at this
  have HF : Hid (jn g n = joinL 58 (g.map hexT)) := by show _ = _; unfold jn; rw [← hlen, List.take_length]
  have HG := Lib.hid hg
  have HL := Lib.hid hlen
  clear hg hlen
  go_enter Tryd.func23, Tryd.ntmps23
  go_wp2
  go_loopw [3, 8] (fun t i wr => ∃ k : Nat, k ≤ n ∧ i = .int .i64 k ∧ wr.ownsRow w.heap.size 5 1 t (jn g k).length ((jn g k).map bv) ∧ Below w.heap.size w wr) (fun _ i _ => n - (intOf i).toNat)
  case atStart => exact ⟨0, Nat.zero_le _, rfl, own_nil8 w _, Below.refl _ _⟩
  case round =>
    obtain ⟨k, hk, rfl, hown, hb⟩ := hrel
    by_cases hlt : k < n
    · obtain ⟨b, off, rfl, hc⟩ := uv_cell (hh.below hb) k hlt
      have hx : g.getD k 0 < 65536 := by
        refine HG.out _ ?_
        rw [List.getD_eq_getElem?_getD, List.getElem?_eq_getElem (by rw [HL.out]; exact hlt), Option.getD_some]
        exact List.getElem_mem _
      have hs := jn_succ g k (by rw [HL.out]; exact hlt)
      have hjl := jn_len g HG.out k (by omega)
      generalize g.getD k 0 = x at *
      have hwr : IntKind.u64.wrap (x : Int) = (x : Int) := by rw [IntKind.wrap_u64]; omega
      by_cases h0 : k = 0
      · have HN : Hid (jn g (k + 1) = jn g k ++ hexT x) := by show _ = _; rw [hs, if_pos h0]; rfl
        have hd : decide ((0 : Int) < (k : Int)) = false := decide_eq_false (by omega)
        have hdN : decide (0 < k) = false := decide_eq_false (by omega)
        clear hs h0
        go_wp2_with fail
        refine (append16_any w.heap.size _ x hx _ _ _ (pow6_below hp hb) hown hb.size (by omega)).mono ?_
        rintro e w1 ⟨v1, rfl, hown1, hb1⟩
        replace hb1 := hb.trans hb1
        have hl : (jn g (k + 1)).length = (jn g k).length + (hexT x).length := by rw [HN.out, List.length_append]
        rw [← HN.out, ← hl] at hown1
        go_wp2
        go_roundw
        case rel => exact ⟨k + 1, by omega, by go_num, hown1, hb1⟩
        case measure => simp [intOf]; omega
      · have HN : Hid (jn g (k + 1) = (jn g k ++ [58]) ++ hexT x) := by show _ = _; rw [hs, if_neg h0, List.append_assoc]
        have hd : decide ((0 : Int) < (k : Int)) = true := decide_eq_true (by omega)
        have hdN : decide (0 < k) = true := decide_eq_true (by omega)
        clear hs h0
        go_wp2_with (at_builtin; refine wpList_app_one wr rfl _ _ 60 rfl w.heap.size 5 i5 (.int .u8 0) 1 tyBs hi5 hz0 hz1 hz2 rfl _ (by exact rfl) _ _ _ (by exact rfl) hown (by exact rfl) (by unfold maxLen; omega) (by omega) hb (Nat.le_refl _) ?_; intro v2 w2 hown2 hb2 hgr)
        rw [show (jn g k).map bv ++ [Value.int .u8 58] = (jn g k ++ [58]).map bv by rw [List.map_append]; rfl] at hown2
        go_wp2_with fail
        refine (append16_any w.heap.size _ x hx _ _ _ (pow6_below hp hb2) hown2 hb2.size (by omega)).mono ?_
        rintro e w1 ⟨v1, rfl, hown1, hb1⟩
        replace hb1 := hb2.trans hb1
        have hl : (jn g (k + 1)).length = (jn g k).length + 1 + (hexT x).length := by rw [HN.out, List.length_append, List.length_append]; rfl
        rw [← HN.out, ← hl] at hown1
        go_wp2
        go_roundw
        case rel => exact ⟨k + 1, by omega, by go_num, hown1, hb1⟩
        case measure => simp [intOf]; omega
    · obtain rfl : k = n := by omega
      have hconv := str_owned wr _ _ _ _ hown
      rw [HF.out] at hconv
      go_wp2
      go_ret
      exact ⟨rfl, hb⟩

end Go.Proofs.YthihfhmclmmadaaDoor
