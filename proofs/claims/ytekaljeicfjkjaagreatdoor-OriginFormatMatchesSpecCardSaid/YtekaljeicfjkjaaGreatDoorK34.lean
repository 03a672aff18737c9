/-
The reference's index of package url: the first byte that is in a set.
The reference's scheme of package url.
The reference's parse of package url, in plain words: where its loops stand.
The reference's hex of layer 14.
The reference's decode of layer 14.
-/
import Derived.Test.YtekaljeicfjkjaaGreatDoorK33
import Derived.Test.YtekaljeicfjkjaaGreatDoorK32
import Derived.Deep.RegionHeld3
import Derived.Test.YtekaljeicfjkjaaGreatDoorK04
import Derived.Test.YtekaljeicfjkjaaGreatDoorK07
import Derived.Test.YtekaljeicfjkjaaGreatDoorK20
import Derived.Test.YtekaljeicfjkjaaGreatDoorK22
import Derived.Deep.LoopGhost
import Derived.StillTailTactics
import Derived.BigQuiet
namespace Go.Proofs.YtekaljeicfjkjaaGreatDoor
section
open Go.RowKit Go.Shelf
set_option maxHeartbeats 16000000
def inS (c : List UInt8) (b : UInt8) : Bool := c.contains b
theorem z9n {S : ByteArray} {b : UInt8} (h : ∀ j (hj : j < S.size), b ≠ S[j]) : inS (ls S) b = false := by
 unfold inS
 rw [Bool.eq_false_iff]
 intro hc
 rw [List.contains_iff_mem] at hc
 obtain ⟨j, hj, e⟩ := List.getElem_of_mem hc
 have hj2 : j < S.size := by rw [<- zb4]; exact hj
 have : (ls S)[j] = S[j] := by
  have := Lib.data_getElem? S j hj2
  rw [List.getElem?_eq_getElem (by rw [Lib.size_eq] at hj2; exact hj2)] at this
  exact Option.some.inj this
 exact h j hj2 (e.symm.trans this)
theorem z9o {S : ByteArray} {j : Nat} (hj : j < S.size) : inS (ls S) S[j] = true := by
 unfold inS
 rw [List.contains_iff_mem]
 exact List.mem_of_getElem? (Lib.data_getElem? S j hj)
theorem z9p {p : UInt8 -> Bool} {s : ByteArray} (h : ∀ b ∈ (ls s).take s.size, p b = false) : (zcx p (ls s)).length = s.size := by
 rw [List.take_of_length_le (by rw [zb4]; exact jH)] at h
 rw [(zc2 h).1, zb4]
theorem z9q (s : ByteArray) (n : Nat) (hn : n < s.size) (hl : n < (ls s).length) : (ls s)[n] = s[n] := by
 have := Lib.data_getElem? s n hn
 rw [List.getElem?_eq_getElem (by rw [Lib.size_eq] at hn; exact hn)] at this
 exact Option.some.inj this
theorem z9r (s : ByteArray) (n : Nat) (hn : n < s.size) : ls s = (ls s).take n ++ s[n] :: (ls s).drop (n + 1) := by
 have hl : n < (ls s).length := by rw [zb4]; exact hn
 conv => lhs; rw [<- List.take_append_drop n (ls s), List.drop_eq_getElem_cons hl, z9q s n hn hl]
 rfl
theorem z9s {p : UInt8 -> Bool} {s : ByteArray} {n : Nat} (hn : n < s.size) (h : ∀ b ∈ (ls s).take n, p b = false) (hp : p s[n] = true) : (zcx p (ls s)).length = n := by
 have e := z9r s n hn
 obtain ⟨h1, _⟩ := zc3 h (b := s[n] :: (ls s).drop (n + 1)) _ _ rfl hp
 rw [<- e] at h1
 rw [h1, List.length_take, zb4]
 omega
theorem z9t {p : UInt8 -> Bool} {s : ByteArray} {n : Nat} (hn : n < s.size) (h : ∀ b ∈ (ls s).take n, p b = false) (hp : p s[n] = false) : ∀ b ∈ (ls s).take (n + 1), p b = false := by
 have hl : n < (ls s).length := by rw [zb4]; exact hn
 intro b hb
 rw [<- List.take_append_getElem hl] at hb
 rcases List.mem_append.1 hb with hb | hb
 ·exact h b hb
 ·rw [List.mem_singleton.1 hb, z9q s n hn hl]
  exact hp
theorem z9u (s S : ByteArray) (w : World) (hs : s.size <= 1000000000) (hS : S.size <= 1000000000) :
 Calls Tryz.prog 60 #[.string s, .string S] w fun e w' => e = .returned (.int .i64 ((zcx (inS (ls S)) (ls s)).length : Nat)) /\ Below w.heap.size w w' := by
 go_enter Tryz.func60, Tryz.ntmps60
 go_wp2
 go_loopw [5, 6] (fun i _ wr => ∃ n : Nat, n <= s.size /\ i = .int .i64 n /\ Below w.heap.size w wr /\ Hid (∀ b ∈ (ls s).take n, inS (ls S) b = false)) (fun i _ _ => s.size - (intOf i).toNat)
 case atStart => exact ⟨0, Nat.zero_le _, rfl, Below.refl _ _, jL (fun b hb => by simp at hb)⟩
 case round =>
  obtain ⟨n, hn, rfl, hbw, HN⟩ := hrel
  by_cases hlt : n < s.size
  ·go_wp2
   go_loopw [6] (fun k wk => ∃ m : Nat, m <= S.size /\ k = .int .i64 m /\ Below w.heap.size w wk /\ Hid (∀ j (hj : j < S.size), j < m -> s[n] ≠ S[j])) (fun k _ => S.size - (intOf k).toNat)
   case atStart => exact ⟨0, Nat.zero_le _, rfl, hbw, jL (fun j hj h => by omega)⟩
   case round =>
    obtain ⟨m, hm, rfl, hbk, HM⟩ := hrel
    by_cases hmt : m < S.size
    ·by_cases he : s[n] = S[m]
     ·have hq : (((s[n]).toNat : Int) == ((S[m]).toNat : Int)) = true := by rw [he]; simp
      have HF : Hid ((zcx (inS (ls S)) (ls s)).length = n) := jL (z9s hlt HN.out (by rw [he]; exact z9o hmt))
      clear he
      go_wp2
      go_quiet (fail)
      go_wp2
      go_ret
      exact ⟨by rw [HF.out]; rfl, hbk.trans ((below_drewN _ _).mono hbk.size)⟩
     ·have hq : (((s[n]).toNat : Int) == ((S[m]).toNat : Int)) = false := by
       rw [beq_eq_false_iff_ne]
       intro h
       exact he (UInt8.toNat_inj.1 (by omega))
      have HM2 : Hid (∀ j (hj : j < S.size), j < m + 1 -> s[n] ≠ S[j]) := jL (fun j hj h => by
       by_cases hjm : j = m
       ·subst hjm; exact he
       ·exact HM.out j hj (by omega))
      clear he
      go_wp2
      go_quiet (fail)
      go_wp2
      go_roundw
      case rel => exact ⟨m + 1, by omega, by go_num, hbk.trans ((below_drewN _ _).mono hbk.size), HM2⟩
      case measure => simp [intOf]; omega
    ·obtain rfl : m = S.size := by omega
     have HN2 : Hid (∀ b ∈ (ls s).take (n + 1), inS (ls S) b = false) := jL (z9t hlt HN.out (z9n (fun j hj => HM.out j hj hj)))
     go_wp2
     go_roundw
     case rel => exact ⟨n + 1, by omega, by go_num, hbk, HN2⟩
     case measure => simp [intOf]; omega
  ·obtain rfl : n = s.size := by omega
   have HF := jL (z9p HN.out)
   go_wp2
   go_ret
   exact ⟨by rw [HF.out]; rfl, hbw⟩
end

section
open Go.RowKit Go.Shelf
set_option maxHeartbeats 16000000
def z9v (l : List UInt8) : Value := if (l.any (isB 58) && z6x (zcx (isB 58) l)) = true then .tuple #[.string (bs (zbk (zcx (isB 58) l))), .string (bs ((zcy (isB 58) l).drop 1)), .bool true] else .tuple #[.string ⟨#[]⟩, .string ⟨#[]⟩, .bool false]
theorem z9w {l : List UInt8} (h : l = [] \/ z6x l = true) : ∀ b ∈ l, isB 58 b = false := by
 intro b hb
 rcases h with rfl | h
 ·cases hb
 ·exact (z7g b (z7i h b hb)).2.1
theorem z9x {s : ByteArray} {n : Nat} (hn : n < s.size) (h : z6x ((ls s).take n) = true) (hb : s[n] = 58) : z9v (ls s) = .tuple #[.string (bs (zbk ((ls s).take n))), .string (bs ((ls s).drop (n + 1))), .bool true] := by
 have e := z9r s n hn
 rw [hb] at e
 obtain ⟨h1, h2⟩ := zc3 (z9w (.inr h)) (b := 58 :: (ls s).drop (n + 1)) _ _ rfl (by simp [isB])
 rw [<- e] at h1 h2
 unfold z9v
 rw [h1, h2, h, if_pos (by rw [e]; simp [isB])]
 rfl
theorem z9y {s : ByteArray} (h : s.size = 0 \/ z6x ((ls s).take s.size) = true) : z9v (ls s) = .tuple #[.string ⟨#[]⟩, .string ⟨#[]⟩, .bool false] := by
 rw [List.take_of_length_le (by rw [zb4]; exact jH)] at h
 have h2 : ls s = [] \/ z6x (ls s) = true := by
  rcases h with h | h
  ·left
   exact List.length_eq_zero_iff.1 (by rw [zb4]; exact h)
  ·exact .inr h
 unfold z9v
 rw [zc6 (z9w h2), Bool.false_and, if_neg (by simp)]
theorem z9z {s : ByteArray} {n : Nat} (hn : n < s.size) (h : n = 0 \/ z6x ((ls s).take n) = true) (hl : z6v s[n] = false) (hf : n = 0 \/ z6w s[n] = false) (hc : n = 0 \/ s[n] ≠ 58) : z9v (ls s) = .tuple #[.string ⟨#[]⟩, .string ⟨#[]⟩, .bool false] := by
 unfold z9v
 rw [if_neg ?_]
 intro ha
 rw [Bool.and_eq_true] at ha
 have e := z9r s n hn
 have hpre : ∀ b ∈ (ls s).take n, isB 58 b = false := z9w (by
  rcases h with h | h
  ·left; rw [h]; rfl
  ·exact .inr h)
 by_cases h58 : s[n] = 58
 ·have h0 : n = 0 := by
   rcases hc with hc | hc
   ·exact hc
   ·exact absurd h58 hc
  subst h0
  rw [h58, List.take_zero, List.nil_append] at e
  have hb : zcx (isB 58) (ls s) = [] := by
   rw [e]
   unfold zcx
   rw [List.takeWhile_cons, if_neg (by simp [isB])]
  rw [hb] at ha
  exact absurd ha.2 (by simp [z6x])
 ·have hbf : zcx (isB 58) (ls s) = (ls s).take n ++ s[n] :: zcx (isB 58) ((ls s).drop (n + 1)) := by
   have hap : ∀ (A B : List UInt8), (∀ b ∈ A, isB 58 b = false) -> zcx (isB 58) (A ++ B) = A ++ zcx (isB 58) B := by
    intro A B hA
    unfold zcx
    rw [List.takeWhile_append_of_pos (by intro b hb; rw [hA b hb]; rfl)]
   conv => lhs; rw [e]
   rw [hap _ _ hpre]
   congr 1
   unfold zcx
   rw [List.takeWhile_cons, if_pos (by simp [isB, h58])]
  have hk : n < (zcx (isB 58) (ls s)).length := by
   rw [hbf, List.length_append, List.length_take, zb4, List.length_cons]
   omega
  have hat : (zcx (isB 58) (ls s))[n] = s[n] := by
   have h3 : ((ls s).take n ++ s[n] :: zcx (isB 58) ((ls s).drop (n + 1)))[n]? = some s[n] := by
    rw [List.getElem?_append_right (by rw [List.length_take]; omega), List.length_take, zb4, Nat.min_eq_left (by omega), Nat.sub_self]
    rfl
   rw [<- hbf, List.getElem?_eq_getElem hk] at h3
   exact Option.some.inj h3
  have := z4k hk (by rw [hat]; exact hl) (by rw [hat]; exact hf)
  rw [this] at ha
  exact absurd ha.2 (by simp)
theorem z90 (b : UInt8) : z6v b = true ↔ (97 <= b.toNat /\ b.toNat <= 122) \/ (65 <= b.toNat /\ b.toNat <= 90) := by
 unfold z6v
 simp only [Bool.or_eq_true, Bool.and_eq_true, decide_eq_true_eq]
theorem z91 (b : UInt8) : z6w b = true ↔ (48 <= b.toNat /\ b.toNat <= 57) \/ b.toNat = 43 \/ b.toNat = 45 \/ b.toNat = 46 := by
 have e : ∀ c : UInt8, (b == c) = true ↔ b.toNat = c.toNat := fun c => by rw [beq_iff_eq]; exact UInt8.toNat_inj.symm
 unfold z6w
 simp only [Bool.or_eq_true, Bool.and_eq_true, decide_eq_true_eq, e]
 constructor
 ·rintro (((h | h) | h) | h)
  ·exact .inl h
  ·exact .inr (.inl h)
  ·exact .inr (.inr (.inl h))
  ·exact .inr (.inr (.inr h))
 ·rintro (h | h | h | h)
  ·exact .inl (.inl (.inl h))
  ·exact .inl (.inl (.inr h))
  ·exact .inl (.inr h)
  ·exact .inr h
theorem z92 (s : ByteArray) (w : World) (hs : s.size <= 1000000000) :
 Calls Tryz.prog 59 #[.string s] w fun e w' => e = .returned (z9v (ls s)) /\ Below w.heap.size w w' := by
 go_enter Tryz.func59, Tryz.ntmps59
 go_wp2
 go_loop [5] (fun i => ∃ n : Nat, n <= s.size /\ i = .int .i64 n /\ Hid (n = 0 \/ z6x ((ls s).take n) = true)) (fun i => s.size - (intOf i).toNat)
 case atStart => exact ⟨0, Nat.zero_le _, rfl, jL (.inl rfl)⟩
 case round =>
  obtain ⟨n, hn, rfl, HN⟩ := hrel
  by_cases hlt : n < s.size
  ·have hsn := z4j ((ls s).take n) s[n]
   rw [<- zca s n hlt] at hsn
   have hnil : (ls s).take n = [] ↔ n = 0 := by
    rw [List.take_eq_nil_iff]
    constructor
    ·rintro (h | h)
     ·exact h
     ·have := zb4 s; rw [h] at this; simp at this; omega
    ·exact .inl
   have hil := z90 s[n]
   have hif := z91 s[n]
   have hbad := fun h1 h2 h3 => z9z hlt HN.out h1 h2 h3
   have hhit := fun h1 h2 => z9x (n := n) hlt h1 h2
   have h58 : s[n] = 58 ↔ (s[n]).toNat = 58 := by rw [<- UInt8.toNat_inj]; rfl
   have hb := zce s[n]
   obtain ⟨y, hy⟩ : ∃ y : Int, y = ((s[n]).toNat : Int) := ⟨_, rfl⟩
   have hy0 : 0 <= y := by omega
   rw [<- hy] at hb
   have t1 : ((s[n]).toNat : Int) = y := hy.symm
   have hil2 : z6v s[n] = true ↔ (97 <= y /\ y <= 122) \/ (65 <= y /\ y <= 90) := by rw [hil]; omega
   have hif2 : z6w s[n] = true ↔ (48 <= y /\ y <= 57) \/ y = 43 \/ y = 45 \/ y = 46 := by rw [hif]; omega
   have h582 : s[n] = 58 ↔ y = 58 := by rw [h58]; omega
   clear hil hif h58 hy
   rw [h582] at hhit
   simp only [ne_eq, h582] at hbad
   clear h582
   by_cases hc : y = 58 /\ 0 < n
   ·have hsc : z6x ((ls s).take n) = true := by
     rcases HN.out with h0 | h0
     ·omega
     ·exact h0
    have HF := jL (hhit hsc hc.1)
    have hn0 : (0 : Int) < (n : Int) := by omega
    have hq : (y == 58) = true := by rw [hc.1]; rfl
    have cl := fun W => z1y (bs ((ls s).take n)) W (by rw [zb5, List.length_take, zb4]; omega)
    have ex1 : s.extract 0 n = bs ((ls s).take n) := by rw [<- zb1 (s.extract 0 n), zb9]; simp
    have ex2 : s.extract (n + 1) s.size = bs ((ls s).drop (n + 1)) := by rw [<- zct, zb1]
    rw [<- ex1] at cl
    have HX := jL (show zbl (s.extract 0 n) = bs (zbk ((ls s).take n)) /\ s.extract (n + 1) s.size = bs ((ls s).drop (n + 1)) by rw [ex1]; exact ⟨rfl, ex2⟩)
    have g1 : (n : Int) + 1 <= (s.size : Int) := by omega
    have g2 : n + 1 <= s.size := by omega
    have g4 : (0 : Int) <= (n : Int) := by omega
    have g5 : (n : Int) <= (s.size : Int) := by omega
    have g6 : (0 : Int) <= (n : Int) + 1 := by omega
    have g3 : ((n : Int) + 1).toNat = n + 1 := by omega
    clear hsn hnil hil2 hif2 hbad hhit hc hsc ex1 ex2
    have hw1 : IntKind.i64.wrap ((n : Int) + 1) = (n : Int) + 1 := by rw [IntKind.wrap_i64]; omega
    go_wp2_with fail
    go_region_held3 (fun _ => True) (first | trivial | go_keep)
     (first
       | (go_at_call 87
          refine (cl _).mono ?_
          rintro e w5 ⟨rfl, hb5⟩))
    go_wp2
    go_ret3
    refine ⟨?_, ?_⟩
    ·rw [HF.out]
     show Ending.returned (.tuple #[.string (zbl (s.extract 0 n)), .string (s.extract (n + 1) s.size), .bool true]) = _
     rw [HX.out.1, HX.out.2]
    ·first
      | exact (below_drewN w _).trans (hb5.mono jH)
      | exact ((below_drewN w _).trans (hb5.mono jH)).trans ((below_drewN w5 _).mono (by have := hb5.size; exact this))
   ·by_cases hL : z6v s[n] = true
    ·have HN2 : Hid (n + 1 = 0 \/ z6x ((ls s).take (n + 1)) = true) := by
      refine jL (.inr ?_)
      rw [hsn]
      split
      ·exact hL
      ·rename_i h
       rcases HN.out with h0 | h0
       ·exact absurd (hnil.2 h0) h
       ·rw [h0, hL]; rfl
     have hr := hil2.1 hL
     clear hsn hnil hL hil2 hif2 hbad hhit hc
     rcases hr with ⟨a1, a2⟩ | ⟨a1, a2⟩
     ·have a3 : 48 <= y := by omega
      have a4 : ¬ y <= 57 := by omega
      have q58 : (y == 58) = false := by rw [beq_eq_false_iff_ne]; omega
      have q43 : (y == 43) = false := by rw [beq_eq_false_iff_ne]; omega
      have q45 : (y == 45) = false := by rw [beq_eq_false_iff_ne]; omega
      have q46 : (y == 46) = false := by rw [beq_eq_false_iff_ne]; omega
      go_wp2
      go_round
      case rel => exact ⟨n + 1, by omega, by go_num, HN2⟩
      case measure => simp [intOf]; omega
     ·have a0 : ¬ 97 <= y := by omega
      have a3 : 48 <= y := by omega
      have a4 : ¬ y <= 57 := by omega
      have q58 : (y == 58) = false := by rw [beq_eq_false_iff_ne]; omega
      have q43 : (y == 43) = false := by rw [beq_eq_false_iff_ne]; omega
      have q45 : (y == 45) = false := by rw [beq_eq_false_iff_ne]; omega
      have q46 : (y == 46) = false := by rw [beq_eq_false_iff_ne]; omega
      go_wp2
      go_round
      case rel => exact ⟨n + 1, by omega, by go_num, HN2⟩
      case measure => simp [intOf]; omega
    ·have hLf : z6v s[n] = false := by simpa using hL
     rw [hil2] at hL
     by_cases hF : z6w s[n] = true
     ·by_cases h0 : n = 0
      ·have HF := jL (hbad hLf (.inl h0) (.inl h0))
       have hq0 : ((n : Int) == 0) = true := by rw [h0]; rfl
       have hr := hif2.1 hF
       clear hsn hnil hL hil2 hif2 hbad hhit hc h0 hF hLf
       rcases hr with ⟨a1, a2⟩ | rfl | rfl | rfl
       ·have b1 : ¬ 97 <= y := by omega
        have b2 : ¬ 65 <= y := by omega
        have q58 : (y == 58) = false := by rw [beq_eq_false_iff_ne]; omega
        go_wp2
        go_ret3
        exact ⟨by rw [HF.out]; rfl, Below.refl _ _⟩
       ·go_wp2
        go_ret3
        exact ⟨by rw [HF.out]; rfl, Below.refl _ _⟩
       ·go_wp2
        go_ret3
        exact ⟨by rw [HF.out]; rfl, Below.refl _ _⟩
       ·go_wp2
        go_ret3
        exact ⟨by rw [HF.out]; rfl, Below.refl _ _⟩
      ·have hq0 : ((n : Int) == 0) = false := by rw [beq_eq_false_iff_ne]; omega
       have HN2 : Hid (n + 1 = 0 \/ z6x ((ls s).take (n + 1)) = true) := by
        refine jL (.inr ?_)
        rw [hsn, if_neg (fun h => h0 (hnil.1 h))]
        rcases HN.out with h9 | h9
        ·exact absurd h9 h0
        ·rw [h9, hF]; simp
       have hr := hif2.1 hF
       clear hsn hnil hL hil2 hif2 hbad hhit hc h0 hF hLf
       rcases hr with ⟨a1, a2⟩ | rfl | rfl | rfl
       ·have b1 : ¬ 97 <= y := by omega
        have b2 : ¬ 65 <= y := by omega
        have q58 : (y == 58) = false := by rw [beq_eq_false_iff_ne]; omega
        go_wp2
        go_round
        case rel => exact ⟨n + 1, by omega, by go_num, HN2⟩
        case measure => simp [intOf]; omega
       ·go_wp2
        go_round
        case rel => exact ⟨n + 1, by omega, by go_num, HN2⟩
        case measure => simp [intOf]; omega
       ·go_wp2
        go_round
        case rel => exact ⟨n + 1, by omega, by go_num, HN2⟩
        case measure => simp [intOf]; omega
       ·go_wp2
        go_round
        case rel => exact ⟨n + 1, by omega, by go_num, HN2⟩
        case measure => simp [intOf]; omega
     ·have hFf : z6w s[n] = false := by simpa using hF
      rw [hif2] at hF
      have HF := jL (hbad hLf (.inr hFf) (by
       by_cases h0 : n = 0
       ·exact .inl h0
       ·exact .inr (fun h => hc ⟨h, by omega⟩)))
      clear hsn hnil hil2 hif2 hbad hhit hFf hLf
      by_cases b1 : 122 < y
      ·have c1 : 97 <= y := by omega
       have c2 : ¬ y <= 122 := by omega
       have c3 : 65 <= y := by omega
       have c4 : ¬ y <= 90 := by omega
       have c5 : 48 <= y := by omega
       have c6 : ¬ y <= 57 := by omega
       have q58 : (y == 58) = false := by rw [beq_eq_false_iff_ne]; omega
       have q43 : (y == 43) = false := by rw [beq_eq_false_iff_ne]; omega
       have q45 : (y == 45) = false := by rw [beq_eq_false_iff_ne]; omega
       have q46 : (y == 46) = false := by rw [beq_eq_false_iff_ne]; omega
       clear hL hF hc b1
       go_wp2
       go_ret3
       exact ⟨by rw [HF.out]; rfl, Below.refl _ _⟩
      ·by_cases b2 : 90 < y
       ·have c1 : ¬ 97 <= y := by omega
        have c3 : 65 <= y := by omega
        have c4 : ¬ y <= 90 := by omega
        have c5 : 48 <= y := by omega
        have c6 : ¬ y <= 57 := by omega
        have q58 : (y == 58) = false := by rw [beq_eq_false_iff_ne]; omega
        have q43 : (y == 43) = false := by rw [beq_eq_false_iff_ne]; omega
        have q45 : (y == 45) = false := by rw [beq_eq_false_iff_ne]; omega
        have q46 : (y == 46) = false := by rw [beq_eq_false_iff_ne]; omega
        clear hL hF hc b1 b2
        go_wp2
        go_ret3
        exact ⟨by rw [HF.out]; rfl, Below.refl _ _⟩
       ·by_cases b3 : y = 58
        ·have h0 : n = 0 := by omega
         subst h0
         clear hL hF hc b1 b2
         subst b3
         go_wp2
         go_ret3
         exact ⟨by rw [HF.out]; rfl, Below.refl _ _⟩
        ·by_cases b4 : 57 < y
         ·have c1 : ¬ 97 <= y := by omega
          have c3 : ¬ 65 <= y := by omega
          have c5 : 48 <= y := by omega
          have c6 : ¬ y <= 57 := by omega
          have q58 : (y == 58) = false := by rw [beq_eq_false_iff_ne]; omega
          have q43 : (y == 43) = false := by rw [beq_eq_false_iff_ne]; omega
          have q45 : (y == 45) = false := by rw [beq_eq_false_iff_ne]; omega
          have q46 : (y == 46) = false := by rw [beq_eq_false_iff_ne]; omega
          clear hL hF hc b1 b2 b3 b4
          go_wp2
          go_ret3
          exact ⟨by rw [HF.out]; rfl, Below.refl _ _⟩
         ·have c1 : ¬ 97 <= y := by omega
          have c3 : ¬ 65 <= y := by omega
          have c5 : ¬ 48 <= y := by omega
          have q58 : (y == 58) = false := by rw [beq_eq_false_iff_ne]; omega
          have q43 : (y == 43) = false := by rw [beq_eq_false_iff_ne]; omega
          have q45 : (y == 45) = false := by rw [beq_eq_false_iff_ne]; omega
          have q46 : (y == 46) = false := by rw [beq_eq_false_iff_ne]; omega
          clear hL hF hc b1 b2 b3 b4
          go_wp2
          go_ret3
          exact ⟨by rw [HF.out]; rfl, Below.refl _ _⟩
  ·obtain rfl : n = s.size := by omega
   have HF := jL (z9y HN.out)
   go_wp2
   go_ret3
   exact ⟨by rw [HF.out]; rfl, Below.refl _ _⟩
end

section
open Go.RowKit Go.Shelf
set_option maxHeartbeats 16000000
theorem z7y (c : UInt8) : inS [c] = isB c := by
 funext b
 unfold inS isB
 rw [Bool.eq_iff_iff]
 simp
theorem z7z : inS [47, 63, 35] = z6y := by
 funext b
 unfold inS z6y
 rw [Bool.eq_iff_iff]
 simp [or_assoc]
theorem z70 (p : UInt8 -> Bool) (l : List UInt8) : l.take (zcx p l).length = zcx p l := by
 have := congrArg (List.take (zcx p l).length) (zcz p l)
 rw [List.take_left] at this
 exact this.symm
theorem z71 (p : UInt8 -> Bool) (l : List UInt8) : l.drop (zcx p l).length = zcy p l := by
 have := congrArg (List.drop (zcx p l).length) (zcz p l)
 rw [List.drop_left] at this
 exact this.symm
theorem z72 {E : List UInt8} {e : Nat} (h : ¬ E.head? = some 91) (he : (zcx (isB 58) E).length = e) : z63 E = some (E.take e, E.drop (e + 1)) := by
 unfold z63
 rw [if_neg h, <- he, z70, <- List.drop_drop, z71]
theorem z73 {E : List UInt8} {e : Nat} (h : E.head? = some 91) (he : (zcx (isB 93) E).length + 1 = e) (hl : e <= E.length) (hc : e = E.length \/ E[e]? = some 58) : z63 E = some (E.take e, E.drop (e + 1)) := by
 unfold z63
 rw [if_pos h]
 unfold z62
 have h1 := zcz (isB 93) E
 have h2 := zc1 (isB 93) E
 generalize zcx (isB 93) E = B at *
 generalize zcy (isB 93) E = F at *
 subst h1
 subst he
 cases F with
 | nil => simp at hl; omega
 | cons b r =>
   have hb : b = 93 := by simpa [isB] using h2 b r rfl
   subst hb
   have t1 : (B ++ 93 :: r).take (B.length + 1) = B ++ [93] := by
    rw [List.take_append, List.take_of_length_le (by omega), show B.length + 1 - B.length = 1 by omega]
    rfl
   have t2 : (B ++ 93 :: r).drop (B.length + 1 + 1) = r.drop 1 := by
    rw [List.drop_append, List.drop_of_length_le (by omega), show B.length + 1 + 1 - B.length = 2 by omega]
    rfl
   rw [t1, t2]
   cases r with
   | nil => rfl
   | cons c d =>
     have h3 : c = 58 := by
      rcases hc with hc | hc
      ·simp at hc
      ·rw [List.getElem?_append_right (by omega)] at hc
       simpa using hc
     simp [h3]
theorem z74 {E : List UInt8} (h : E.head? = some 91) (hl : E.length < (zcx (isB 93) E).length + 1) : z63 E = none := by
 unfold z63
 rw [if_pos h]
 unfold z62
 have h1 := zcz (isB 93) E
 cases hF : zcy (isB 93) E with
 | nil => rfl
 | cons b r =>
   rw [hF] at h1
   have := congrArg List.length h1
   simp at this
   omega
theorem z75 {E : List UInt8} {e : Nat} {c : UInt8} (h : E.head? = some 91) (he : (zcx (isB 93) E).length + 1 = e) (hc : E[e]? = some c) (hn : c ≠ 58) : z63 E = none := by
 unfold z63
 rw [if_pos h]
 unfold z62
 have h1 := zcz (isB 93) E
 generalize zcx (isB 93) E = B at *
 generalize zcy (isB 93) E = F at *
 subst h1
 subst he
 rw [List.getElem?_append_right (by omega)] at hc
 cases F with
 | nil => rfl
 | cons b r =>
   cases r with
   | nil => simp at hc
   | cons c' d =>
     have : c' = c := by simpa using hc
     simp [this, hn]
theorem z76 {A : List UInt8} {i : Nat} (hi : i < A.length) (h64 : A[i] = 64) (hn : ∀ b ∈ A.drop (i + 1), b ≠ 64) : z6z A = A.take i /\ z60 A = A.drop (i + 1) := by
 have e : A = A.take i ++ 64 :: A.drop (i + 1) := by
  conv => lhs; rw [<- List.take_append_drop i A, List.drop_eq_getElem_cons hi, h64]
 have hm : 64 ∉ A.drop (i + 1) := fun h => hn 64 h rfl
 have := z7e (u := A.take i) hm
 rwa [<- e] at this
theorem z77 {A : List UInt8} {i : Nat} (hi : i < A.length) (h64 : A[i] ≠ 64) (hn : ∀ b ∈ A.drop (i + 1), b ≠ 64) : ∀ b ∈ A.drop i, b ≠ 64 := by
 intro b hb
 rw [List.drop_eq_getElem_cons hi] at hb
 rcases List.mem_cons.1 hb with rfl | hb
 ·exact h64
 ·exact hn b hb
theorem z78 {A : List UInt8} (hn : ∀ b ∈ A.drop 0, b ≠ 64) : z6z A = [] /\ z60 A = A := z7d (fun h => hn 64 h rfl)
def z79 (d : List UInt8) : Nat := min (zqf 10 0 d) 1048576
theorem z8a : z79 [] = 0 := rfl
theorem z8b (d : List UInt8) {c : UInt8} (hc : zbe c = true) : z79 (d ++ [c]) = min (z79 d * 10 + (c.toNat - 48)) 1048576 := by
 have := (zqr c hc).1
 unfold z79
 rw [zqg, zqf, zqf, this]
 omega
theorem z8c {d : List UInt8} {c : UInt8} (std : Int) (hm : c ∈ d) (hc : zbe c = false) : z61 d std = none := by
 unfold z61
 rw [if_neg (by rintro rfl; cases hm), if_neg]
 intro h
 rw [List.all_eq_true] at h
 rw [h c hm] at hc
 cases hc
theorem z8d {d : List UInt8} (std : Int) (hd : d ≠ []) (ha : d.all zbe = true) (h : 65535 < z79 d) : z61 d std = none := by
 unfold z79 at h
 unfold z61
 rw [if_neg hd, if_pos ha, if_pos (by omega)]
theorem z8e {d : List UInt8} (std : Int) (hd : d ≠ []) (ha : d.all zbe = true) (h : ¬ 65535 < z79 d) : z61 d std = some (if (z79 d : Int) = std then -1 else (z79 d : Int)) := by
 unfold z79 at *
 have e : min (zqf 10 0 d) 1048576 = zqf 10 0 d := by omega
 unfold z61
 rw [if_neg hd, if_pos ha, e, if_neg (by omega)]
 split <;> rfl
theorem z8f {d : List UInt8} {c : UInt8} (h : d.all zbe = true) (hc : zbe c = true) : (d ++ [c]).all zbe = true := by
 rw [List.all_append, h]
 simp [hc]
def z8g (C : Array Value) : Nat -> List Value -> Array Value
 | _, [] => C
 | o, v :: r => z8g (C.setIfInBounds o v) (o + 1) r
theorem Row.sets9 {g : Nat} {t : TypeId} : ∀ (vs : List Value) (o : Nat) (w : World) (C : Array Value), Row w g t C -> Row (w.setCells g o vs) g t (z8g C o vs)
 | [], _, _, _, h => h
 | _v :: r, o, _w, _C, h => Row.sets9 r (o + 1) _ _ (Row.set9 h)
theorem Row.sets_other {g b : Nat} {t : TypeId} (hne : g ≠ b) {C : Array Value} : ∀ (vs : List Value) (o : Nat) (w : World), Row w g t C -> Row (w.setCells b o vs) g t C
 | [], _, _, h => h
 | _v :: r, o, _w, h => Row.sets_other hne r (o + 1) _ (Row.set_other9 h hne)
theorem Below.sets9 {B g : Nat} {w0 : World} (hg : B <= g) : ∀ (vs : List Value) (o : Nat) (w : World), Below B w0 w -> Below B w0 (w.setCells g o vs)
 | [], _, _, h => h
 | v :: r, o, _w, h => Below.sets9 hg r (o + 1) _ (h.setCell (p := ⟨g, o, none⟩) hg v)
theorem z8h {ops : Array Oper} {rest : List Oper} {o : Oper} {a : Act} {w : World} {Q : Exit -> Act -> World -> Prop} (hgd : o.guard = none) (hd : o.dst = none) (p x : Operand) (ho : o.op = .store 26 p x)
 (g : Nat) (hp : a.eval p = .pointer (some ⟨g, 2, none⟩)) (H : Array Value) (hx : a.eval x = .agg H) (C : Array Value) (hrow : z89 w g C) (hc : C.size = 15) (hH : H.size = 11) (h1 : H.all (·.oneCell') = true)
 (h : z89 (w.setCells g 2 H.toList) g (z8g C 2 H.toList) -> wpList Tryz.prog ops Q rest a (w.setCells g 2 H.toList)) : wpList Tryz.prog ops Q (o :: rest) a w := by
 have ht : w.there g 2 H.size := fun j hj => ⟨by rw [Row.cell hrow (by omega)]; rfl, Row.frozen9 hrow _⟩
 refine wpList_store_mid hgd _ p x ho g 2 H hp hx ht (by rw [hH]; exact zgx) h1 ?_
 rw [hd]
 exact h (Row.sets9 _ _ _ _ hrow)
end

section
open Go.RowKit
set_option maxHeartbeats 16000000
def zi1 (b : UInt8) : Int := if zqe b < 16 then (zqe b : Int) else -1
theorem zi2 {b : UInt8} {y : Int} (hy : y = (b.toNat : Int)) : zi1 b = if 48 <= y /\ y <= 57 then y - 48 else if 97 <= y /\ y <= 102 then y - 97 + 10 else if 65 <= y /\ y <= 70 then y - 65 + 10 else -1 := by
 have hb := b.toNat_lt
 subst hy
 unfold zi1
 by_cases h1 : 48 <= b.toNat /\ b.toNat <= 57
 ·have e : zqe b = b.toNat - 48 := by unfold zqe; rw [if_pos h1]
  rw [e, if_pos (show b.toNat - 48 < 16 by omega), if_pos (show (48 : Int) <= (b.toNat : Int) /\ (b.toNat : Int) <= 57 from ⟨by omega, by omega⟩)]
  omega
 ·rw [if_neg (show ¬ ((48 : Int) <= (b.toNat : Int) /\ (b.toNat : Int) <= 57) by omega)]
  by_cases h2 : 97 <= b.toNat /\ b.toNat <= 102
  ·have e : zqe b = b.toNat - 87 := by unfold zqe; rw [if_neg h1, if_pos h2]
   rw [e, if_pos (show b.toNat - 87 < 16 by omega), if_pos (show (97 : Int) <= (b.toNat : Int) /\ (b.toNat : Int) <= 102 from ⟨by omega, by omega⟩)]
   omega
  ·rw [if_neg (show ¬ ((97 : Int) <= (b.toNat : Int) /\ (b.toNat : Int) <= 102) by omega)]
   by_cases h3 : 65 <= b.toNat /\ b.toNat <= 70
   ·have e : zqe b = b.toNat - 55 := by unfold zqe; rw [if_neg h1, if_neg h2, if_pos h3]
    rw [e, if_pos (show b.toNat - 55 < 16 by omega), if_pos (show (65 : Int) <= (b.toNat : Int) /\ (b.toNat : Int) <= 70 from ⟨by omega, by omega⟩)]
    omega
   ·have e : zqe b = 99 := by unfold zqe; rw [if_neg h1, if_neg h2, if_neg h3]
    rw [e, if_neg (show ¬ ((65 : Int) <= (b.toNat : Int) /\ (b.toNat : Int) <= 70) by omega), if_neg (by decide)]
theorem zi3 (b : UInt8) (w : World) : Calls Tryz.prog 118 #[.int .u8 (b.toNat : Int)] w fun e w' => e = .returned (.int .i64 (zi1 b)) /\ w = w' := by
 obtain ⟨y, hy⟩ : ∃ y : Int, y = (b.toNat : Int) := ⟨_, rfl⟩
 have hb := zce b
 have HH := jL (zi2 hy)
 rw [<- hy] at hb ⊢
 have h0 : 0 <= y := by omega
 clear hy
 by_cases h1 : 48 <= y /\ y <= 57
 ·have HV : Hid (zi1 b = y - 48) := by show _ = _; rw [HH.out, if_pos h1]
  obtain ⟨h2, h3⟩ := h1
  have d1 : decide ((48 : Int) <= y) = true := jT h2
  have d2 : decide (y <= (57 : Int)) = true := jT h3
  clear HH
  go_enter Tryz.func118, Tryz.ntmps118
  go_wp2
  go_ret
  exact ⟨zby HV.out.symm, rfl⟩
 ·by_cases h2 : 97 <= y /\ y <= 102
  ·have HV : Hid (zi1 b = y - 97 + 10) := by show _ = _; rw [HH.out, if_neg h1, if_pos h2]
   obtain ⟨h3, h4⟩ := h2
   have d0 : decide ((48 : Int) <= y) = true := jT (by omega)
   have d1 : decide (y <= (57 : Int)) = false := jF (by omega)
   have d2 : decide ((97 : Int) <= y) = true := jT h3
   have d3 : decide (y <= (102 : Int)) = true := jT h4
   clear HH h1
   go_enter Tryz.func118, Tryz.ntmps118
   go_wp2
   go_ret
   exact ⟨zby HV.out.symm, rfl⟩
  ·by_cases h3 : 65 <= y /\ y <= 70
   ·have HV : Hid (zi1 b = y - 65 + 10) := by show _ = _; rw [HH.out, if_neg h1, if_neg h2, if_pos h3]
    obtain ⟨h4, h5⟩ := h3
    have d0 : decide ((48 : Int) <= y) = true := jT (by omega)
    have d1 : decide (y <= (57 : Int)) = false := jF (by omega)
    have d2 : decide ((97 : Int) <= y) = false := jF (by omega)
    have d4 : decide ((65 : Int) <= y) = true := jT h4
    have d5 : decide (y <= (70 : Int)) = true := jT h5
    clear HH h1 h2
    go_enter Tryz.func118, Tryz.ntmps118
    go_wp2
    go_ret
    exact ⟨zby HV.out.symm, rfl⟩
   ·have HV : Hid (zi1 b = -1) := by show _ = _; rw [HH.out, if_neg h1, if_neg h2, if_neg h3]
    clear HH
    by_cases a1 : 48 <= y
    ·by_cases a2 : 97 <= y
     ·have d0 : decide ((48 : Int) <= y) = true := jT a1
      have d1 : decide (y <= (57 : Int)) = false := jF (by omega)
      have d2 : decide ((97 : Int) <= y) = true := jT a2
      have d3 : decide (y <= (102 : Int)) = false := jF (by omega)
      have d4 : decide ((65 : Int) <= y) = true := jT (by omega)
      have d5 : decide (y <= (70 : Int)) = false := jF (by omega)
      clear h1 h2 h3 a1 a2
      go_enter Tryz.func118, Tryz.ntmps118
      go_wp2
      go_ret
      exact ⟨zby HV.out.symm, rfl⟩
     ·by_cases a3 : 65 <= y
      ·have d0 : decide ((48 : Int) <= y) = true := jT a1
       have d1 : decide (y <= (57 : Int)) = false := jF (by omega)
       have d2 : decide ((97 : Int) <= y) = false := jF a2
       have d4 : decide ((65 : Int) <= y) = true := jT a3
       have d5 : decide (y <= (70 : Int)) = false := jF (by omega)
       clear h1 h2 h3 a1 a2 a3
       go_enter Tryz.func118, Tryz.ntmps118
       go_wp2
       go_ret
       exact ⟨zby HV.out.symm, rfl⟩
      ·have d0 : decide ((48 : Int) <= y) = true := jT a1
       have d1 : decide (y <= (57 : Int)) = false := jF (by omega)
       have d2 : decide ((97 : Int) <= y) = false := jF a2
       have d4 : decide ((65 : Int) <= y) = false := jF a3
       clear h1 h2 h3 a1 a2 a3
       go_enter Tryz.func118, Tryz.ntmps118
       go_wp2
       go_ret
       exact ⟨zby HV.out.symm, rfl⟩
    ·have d0 : decide ((48 : Int) <= y) = false := jF a1
     have d2 : decide ((97 : Int) <= y) = false := jF (by omega)
     have d4 : decide ((65 : Int) <= y) = false := jF (by omega)
     clear h1 h2 h3 a1
     go_enter Tryz.func118, Tryz.ntmps118
     go_wp2
     go_ret
     exact ⟨zby HV.out.symm, rfl⟩
theorem zi4 (a b : UInt8) (r : List UInt8) : zds (a :: b :: r) = if zqe a < 16 /\ zqe b < 16 then some (16 * zqe a + zqe b) else none := by
 unfold zds
 by_cases h : zqe a < 16 /\ zqe b < 16
 ·rw [if_pos h, if_pos ⟨by simp, h⟩]
  rfl
 ·rw [if_neg h, if_neg (fun hh => h hh.2)]
theorem zi5 {b : UInt8} (h : ¬ zqe b < 16) : zi1 b = -1 := by unfold zi1; rw [if_neg h]
theorem zi6 {b : UInt8} (h : zqe b < 16) : zi1 b = (zqe b : Int) := by unfold zi1; rw [if_pos h]
end

section
open Go.RowKit
set_option maxHeartbeats 16000000
theorem zi7 {P : Program} {md : Region.Mode} {ops : Array Oper} {Q' : Exit -> Act -> World -> Prop} {listed : Array Bool} {a : Act} {w : World} {n : Nat} (k : Nat) (hn : k + n = ops.size) (hB : Region.seqB md ops n k listed = true)
 (h : wpList P ops Q' (ops.toList.drop k) a w) : wpAny P md ops Q' n listed a w := by
 have hl : (ops.toList.drop k).length = n := by simp; omega
 have := wpAny_of_seq (ops.toList.drop k) k listed a w (fun j => by simp) (by rw [hl]; exact hB) h
 rwa [hl] at this
set_option maxRecDepth 20000 in
theorem zi8 (s : ByteArray) (hs : s.size <= 100000000) (w : World) : Calls Tryz.prog 89 #[.string s] w fun e w' =>
 e = .returned (.tuple #[.string (bs ((zg9 (ls s)).getD [])), .bool (zg9 (ls s)).isSome]) /\ Below w.heap.size w w' := by
 obtain ⟨i5, hi5, hz0, hz1, hz2⟩ := info_parts z34
 have hP0 : zdw (zg9 (ls s)) [] (ls s) := by
  unfold zdw
  cases zg9 (ls s) <;> rfl
 generalize zg9 (ls s) = V at *
 have HP0 := jL hP0
 clear hP0
 go_enter Tryz.func89, Tryz.ntmps89
 go_wp2
 go_loopg [4, 5] (s.size + 1) (fun g tv iv wr => ∃ (k : Nat) (acc : List UInt8), k <= s.size /\ g = s.size + 1 - k /\ iv = .int .i64 k /\ acc.length <= k /\ Hid (zdw V acc ((ls s).drop k)) /\ wr.ownsRow w.heap.size 5 1 tv acc.length (acc.map bv) /\ Below w.heap.size w wr)
 case atStart => exact ⟨0, [], Nat.zero_le _, by omega, rfl, jH, jL (by rw [List.drop_zero]; exact HP0.out), World.ownsRow_nil _ _ _ _, Below.refl _ _⟩
 case round =>
  obtain ⟨k, acc, hk, hg, rfl, hal, HP, hown, hb⟩ := hrel
  have HG := jL hg
  clear hg
  by_cases hlt : k < s.size
  ·have hdrop := zcc s k hlt
   have hHP := HP.out
   rw [hdrop] at hHP
   by_cases h37 : s[k] = 37
   ·have hq' : ((s[k].toNat : Int) == 37) = true := by rw [h37]; rfl
    have hq : (!((s[k].toNat : Int) == 37)) = false := by rw [hq']; rfl
    rw [h37] at hHP
    by_cases h3 : k + 3 <= s.size
    ·have d3 : decide ((s.size : Int) - (k : Int) < 3) = false := jF (by omega)
     have e2 : (ls s).drop (k + 1) = s[k + 1] :: s[k + 2] :: (ls s).drop (k + 3) := by
      rw [zcc s (k + 1) (by omega), zcc s (k + 2) (by omega)]
     have c1 := fun W => zi3 s[k + 1] W
     have c2 := fun W => zi3 s[k + 2] W
     rw [e2] at hHP
     have he := zi4 s[k + 1] s[k + 2] ((ls s).drop (k + 3))
     have hk1 : k + 1 < s.size := by omega
     have hk2 : k + 2 < s.size := by omega
     by_cases hd1 : zqe s[k + 1] < 16
     ·by_cases hd2 : zqe s[k + 2] < 16
      ·rw [if_pos ⟨hd1, hd2⟩] at he
       have HN := jL (zdz hHP he)
       rw [zi6 hd1] at c1
       rw [zi6 hd2] at c2
       obtain ⟨v1, hv1⟩ : ∃ v, v = zqe s[k + 1] := ⟨_, rfl⟩
       obtain ⟨v2, hv2⟩ : ∃ v, v = zqe s[k + 2] := ⟨_, rfl⟩
       rw [<- hv1] at hd1
       rw [<- hv2] at hd2
       simp only [<- hv1] at c1
       simp only [<- hv2] at c2
       rw [<- hv1, <- hv2] at HN
       have d4 : decide ((v1 : Int) < 0) = false := jF (by omega)
       have d5 : decide ((v2 : Int) < 0) = false := jF (by omega)
       have HB8 : Hid (bv (UInt8.ofNat (16 * v1 + v2)) = .int .u8 (16 * (v1 : Int) + (v2 : Int))) := by
        show _ = _
        rw [zcf]
        simp
        omega
       clear hv1 hv2 he e2 hHP hdrop h37 HP
       go_wp2_with (go_at_call 118; (first | (with_reducible refine (c1 _).mono ?_) | (with_reducible refine (c2 _).mono ?_)); rintro e w2 ⟨rfl, rfl⟩)
       have hw1 : IntKind.i64.wrap ((k : Int) + 1) = (k : Int) + 1 := by rw [IntKind.wrap_i64]; omega
       have hw2 : IntKind.i64.wrap ((k : Int) + 2) = (k : Int) + 2 := by rw [IntKind.wrap_i64]; omega
       have hw3 : IntKind.i64.wrap (16 * (v1 : Int)) = 16 * (v1 : Int) := by rw [IntKind.wrap_i64]; omega
       have hw4 : IntKind.i64.wrap (16 * (v1 : Int) + (v2 : Int)) = 16 * (v1 : Int) + (v2 : Int) := by rw [IntKind.wrap_i64]; omega
       have hw5 : IntKind.u8.wrap (16 * (v1 : Int) + (v2 : Int)) = 16 * (v1 : Int) + (v2 : Int) := by unfold IntKind.wrap; simp [IntKind.bits, IntKind.signed]; omega
       refine wp_region_any (by kernel_rfl) ?_
       refine wpAny_take (i := 0) (v := u4) rfl (by kernel_rfl) (by kernel_rfl) (by kernel_rfl) (fun _ _ _ h => h) (Or.inl ⟨by rfl, by intro w; go_simp; try with_reducible rfl⟩) ?_
       refine wpAny_take (i := 1) (v := .string s) rfl (by kernel_rfl) (by kernel_rfl) (by kernel_rfl) (fun _ _ _ h => h) (Or.inl ⟨by rfl, by intro w; go_simp; try with_reducible rfl⟩) ?_
       refine wpAny_take (i := 2) (v := .int .i64 (k : Int)) rfl (by kernel_rfl) (by kernel_rfl) (by kernel_rfl) (fun _ _ _ h => h) (Or.inl ⟨by rfl, by intro w; go_simp; try with_reducible rfl⟩) ?_
       refine wpAny_take (i := 3) (v := .int .i64 ((k : Int) + 1)) rfl (by kernel_rfl) (by kernel_rfl) (by kernel_rfl) (fun _ _ _ h => h) (Or.inl ⟨by rfl, by intro w; go_simp; try with_reducible rfl⟩) ?_
       refine wpAny_take (i := 4) (v := .int .u8 (s[k + 1].toNat : Int)) rfl (by kernel_rfl) (by kernel_rfl) (by kernel_rfl) (fun _ _ _ h => h) (Or.inl ⟨by rfl, by intro w; go_simp; try with_reducible rfl⟩) ?_
       refine wpAny_take (i := 7) (v := .string s) rfl (by kernel_rfl) (by kernel_rfl) (by kernel_rfl) (fun _ _ _ h => h) (Or.inl ⟨by rfl, by intro w; go_simp; try with_reducible rfl⟩) ?_
       refine wpAny_take (i := 8) (v := .int .i64 (k : Int)) rfl (by kernel_rfl) (by kernel_rfl) (by kernel_rfl) (fun _ _ _ h => h) (Or.inl ⟨by rfl, by intro w; go_simp; try with_reducible rfl⟩) ?_
       refine wpAny_take (i := 9) (v := .int .i64 ((k : Int) + 2)) rfl (by kernel_rfl) (by kernel_rfl) (by kernel_rfl) (fun _ _ _ h => h) (Or.inl ⟨by rfl, by intro w; go_simp; try with_reducible rfl⟩) ?_
       refine wpAny_take (i := 10) (v := .int .u8 (s[k + 2].toNat : Int)) rfl (by kernel_rfl) (by kernel_rfl) (by kernel_rfl) (fun _ _ _ h => h) (Or.inl ⟨by rfl, by intro w; go_simp; rfl⟩) ?_
       refine wpAny_ready (rs := [5]) (by kernel_rfl) (by simp) ?_
       refine AllReady.cons rfl (fun K hK => ?_) AllReady.nil
       go_simp
       go_wp2_with fail
       refine (c1 _).mono ?_
       rintro e w9 ⟨rfl, rfl⟩
       refine hK _ _ ?_
       clear hK K
       refine wpAny_take (i := 6) (v := .int .i64 (16 * (v1 : Int))) rfl (by kernel_rfl) (by kernel_rfl) (by kernel_rfl) (fun _ _ _ h => h) (Or.inl ⟨by rfl, by intro w; go_simp; try with_reducible rfl⟩) ?_
       refine wpAny_ready (rs := [11]) (by kernel_rfl) (by simp) ?_
       refine AllReady.cons rfl (fun K hK => ?_) AllReady.nil
       go_simp
       go_wp2_with fail
       refine (c2 _).mono ?_
       rintro e w9 ⟨rfl, rfl⟩
       refine hK _ _ ?_
       clear hK K
       refine wpAny_take (i := 12) (v := .int .i64 (16 * (v1 : Int) + (v2 : Int))) rfl (by kernel_rfl) (by kernel_rfl) (by kernel_rfl) (fun _ _ _ h => h) (Or.inl ⟨by rfl, by intro w; go_simp; try with_reducible rfl⟩) ?_
       refine wpAny_take (i := 13) (v := .int .u8 (16 * (v1 : Int) + (v2 : Int))) rfl (by kernel_rfl) (by kernel_rfl) (by kernel_rfl) (fun _ _ _ h => h) (Or.inl ⟨by rfl, by intro w; go_simp; try with_reducible rfl⟩) ?_
       refine zi7 14 rfl (by kernel_rfl) ?_
       simp only [List.drop_succ_cons, List.drop_zero]
       clear hw1 hw2 hw3 hw4 hw5
       change wpList _ _ _ _ _ (World.drew _)
       have hown2 : (World.drew wr).ownsRow w.heap.size 5 1 u4 acc.length (acc.map bv) := hown
       have hbd := hb.drew
       generalize World.drew wr = w9 at *
       have hl9 : acc.length <= 100000000 := by omega
       go_wp2_with (at_builtin; refine zcq _ rfl _ _ 72 rfl w.heap.size 5 i5 (.int .u8 0) 1 z31 hi5 hz0 hz1 hz2 rfl _ (by exact rfl) _ _ _ (by exact rfl) hown2 (by exact rfl) (by unfold maxLen; omega) (by omega) hbd jH ?_; intro v' w1' hown' hb' _)
       go_roundg (s.size + 1 - (k + 3))
       case rel =>
        refine ⟨k + 3, acc ++ [UInt8.ofNat (16 * v1 + v2)], h3, rfl, by go_num, by rw [List.length_append, List.length_singleton]; omega, HN, ?_, hb'⟩
        have e9 : (acc ++ [UInt8.ofNat (16 * v1 + v2)]).map bv = acc.map bv ++ [.int .u8 (16 * (v1 : Int) + (v2 : Int))] := by rw [List.map_append, <- HB8.out]; rfl
        rw [e9, List.length_append, List.length_singleton]
        exact hown'
       case measure => rw [HG.out]; omega
      ·rw [if_neg (fun h => hd2 h.2)] at he
       have HV := jL (zdy hHP he)
       rw [zi6 hd1] at c1
       rw [zi5 hd2] at c2
       obtain ⟨v1, hv1⟩ : ∃ v, v = zqe s[k + 1] := ⟨_, rfl⟩
       simp only [<- hv1] at c1
       have d4 : decide ((v1 : Int) < 0) = false := jF (by omega)
       clear hv1 he e2 hHP hdrop h37 HP hd1 hd2
       go_wp2_with (go_at_call 118; (first | (with_reducible refine (c1 _).mono ?_) | (with_reducible refine (c2 _).mono ?_)); rintro e w2 ⟨rfl, rfl⟩)
       go_ret2
       rw [HV.out]
       exact ⟨rfl, hb⟩
     ·rw [if_neg (fun h => hd1 h.1)] at he
      have HV := jL (zdy hHP he)
      rw [zi5 hd1] at c1
      clear c2 he e2 hHP hdrop h37 HP hd1
      go_wp2_with (go_at_call 118; refine (c1 _).mono ?_; rintro e w2 ⟨rfl, rfl⟩)
      go_ret2
      rw [HV.out]
      exact ⟨rfl, hb⟩
    ·have d3 : decide ((s.size : Int) - (k : Int) < 3) = true := jT (by omega)
     have HV := jL (zdy hHP (zdt (by rw [List.length_drop, zb4]; omega)))
     clear hHP hdrop h37 HP
     go_wp2
     go_ret2
     rw [HV.out]
     exact ⟨rfl, hb⟩
   ·have hq' : ((s[k].toNat : Int) == 37) = false := zrp h37
    have hq : (!((s[k].toNat : Int) == 37)) = true := by rw [hq']; rfl
    have HN := jL (zdx hHP h37)
    have hl9 : acc.length <= 100000000 := by omega
    clear hHP hdrop h37 HP
    go_wp2_with (at_builtin; refine zcq _ rfl _ _ 72 rfl w.heap.size 5 i5 (.int .u8 0) 1 z31 hi5 hz0 hz1 hz2 rfl _ (by exact rfl) _ _ _ (by exact rfl) hown (by exact rfl) (by unfold maxLen; omega) (by omega) hb jH ?_; intro v' w1' hown' hb' _)
    go_roundg (s.size + 1 - (k + 1))
    case rel =>
     refine ⟨k + 1, acc ++ [s[k]], by omega, rfl, by go_num, by rw [List.length_append, List.length_singleton]; omega, HN, ?_, hb'⟩
     have e9 : (acc ++ [s[k]]).map bv = acc.map bv ++ [.int .u8 (s[k].toNat : Int)] := by rw [List.map_append]; rfl
     rw [e9, List.length_append, List.length_singleton]
     exact hown'
    case measure => rw [HG.out]; omega
  ·obtain rfl : k = s.size := by omega
   have hHP := HP.out
   rw [zcd] at hHP
   have HV := jL (zd0 hHP)
   have hconv := z36 wr w.heap.size acc.length u4 acc hown
   clear hHP
   go_wp2
   go_ret2
   rw [HV.out]
   exact ⟨rfl, hb⟩
end

end Go.Proofs.YtekaljeicfjkjaaGreatDoor
